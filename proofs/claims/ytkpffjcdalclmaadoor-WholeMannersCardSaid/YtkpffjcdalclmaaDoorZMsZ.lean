/- Texts in one: MsM, MsA, MsD, MsN, MsR. -/
import Derived.Test.YtkpffjcdalclmaaDoorZTxI
import Derived.Deep.MidRow
import Derived.Test.YtkpffjcdalclmaaDoorZTxJ
namespace Go.Proofs.YtkpffjcdalclmaaDoor
open Go.RowKit
set_option linter.unusedVariables false
set_option linter.unusedSimpArgs false
set_option maxRecDepth 100000
abbrev HdI := {h : Hd // IsHd h}
def hdi0 : HdI := ⟨hd0, hd0_is⟩
def idR : RowT I32 := ⟨50, 48, 32, 32, fun x => x.1.map byteV, i0⟩
def hdR : RowT HdI := ⟨53, 51, 68, 80, fun h => hdL h.1, hdi0⟩
theorem idr_facts : (Tryd.prog.info? 50).map (fun i => (i.zero.map (·.cells), i.size, i.bytes)) = some (some (i0.1.map byteV).toArray, 32, 32) := by kernel_rfl
theorem idr_info : ∃ i v, Tryd.prog.info? 50 = some i ∧ i.zero = some v ∧ i.size = 32 ∧ i.bytes = 32 ∧ v.cells = (i0.1.map byteV).toArray := by
 obtain ⟨i, hi, hs⟩ := Option.map_eq_some_iff.1 idr_facts
 simp only [Prod.mk.injEq, Option.map_eq_some_iff] at hs
 obtain ⟨⟨v, hv, hc⟩, h1, h2⟩ := hs
 exact ⟨i, v, hi, hv, h1, h2, hc⟩
theorem hdr_facts : (Tryd.prog.info? 53).map (fun i => (i.zero.map (·.cells), i.size, i.bytes)) = some (some (hdL hd0).toArray, 68, 80) := by kernel_rfl
theorem hdr_info : ∃ i v, Tryd.prog.info? 53 = some i ∧ i.zero = some v ∧ i.size = 68 ∧ i.bytes = 80 ∧ v.cells = (hdL hd0).toArray := by
 obtain ⟨i, hi, hs⟩ := Option.map_eq_some_iff.1 hdr_facts
 simp only [Prod.mk.injEq, Option.map_eq_some_iff] at hs
 obtain ⟨⟨v, hv, hc⟩, h1, h2⟩ := hs
 exact ⟨i, v, hi, hv, h1, h2, hc⟩
theorem by_ones (l : List Nat) : ∀ v ∈ l.map byteV, v.oneCell' = true := fun v hv => by
 obtain ⟨b, _, rfl⟩ := List.mem_map.1 hv
 rfl
theorem msh_one (h : Hd) : ∀ v ∈ hdL h, v.oneCell' = true := fun v hv => by
 have h1 := hdA_one h
 rw [Array.all_eq_true_iff_forall_mem] at h1
 exact h1 v (by unfold hdA; exact List.mem_toArray.2 hv)
theorem idR_ok : idR.Ok where
 ht := Tryd.underlying48
 info := idr_info
 len := fun x => by show (x.1.map byteV).length = 32; rw [List.length_map, x.2.1]
 one := fun x => by_ones x.1
 pos := by decide
 bys := by decide
theorem hdR_ok : hdR.Ok where
 ht := Tryd.underlying51
 info := hdr_info
 len := fun h => hdL_length h.2
 one := fun h => msh_one h.1
 pos := by decide
 bys := by decide
structure MsM where
 kd : Int
 nc : Nat
 ht : Nat
 ns : Option Addr
 cn : Nat
 nm : List I32
 st : I32
 hs : Option Addr
 ch : Nat
 hd : List HdI
 bk : BlkM
def MsM.nv (m : MsM) : Value := .slice m.ns m.nm.length m.cn
def MsM.hv (m : MsM) : Value := .slice m.hs m.hd.length m.ch
def msL (m : MsM) : List Value := .int .i64 m.kd :: .int .u64 (m.nc : Int) :: .int .u32 (m.ht : Int) :: m.nv :: (m.st.1.map byteV ++ (m.hv :: blkL m.bk))
def MsOk (m : MsM) : Prop := (-9223372036854775808 ≤ m.kd ∧ m.kd ≤ 9223372036854775807) ∧ m.nc < 18446744073709551616 ∧ m.ht < 4294967296 ∧ IsHd m.bk.hd
def MsV (w : World) (B : Nat) (m : MsM) : Prop := MsOk m ∧ RowV idR w B m.nv m.nm ∧ RowV hdR w B m.hv m.hd ∧ BlkV w B m.bk
def BkFit (b : BlkM) : Prop := b.txs.length ≤ 40 ∧ ∀ t ∈ b.txs, TxFit t
def MsFit (m : MsM) : Prop := m.nm.length ≤ 100 ∧ m.hd.length ≤ 100 ∧ (m.kd = 7 → BkFit m.bk)
theorem msL_len {m : MsM} (h : IsHd m.bk.hd) : (msL m).length = 106 := by
 unfold msL
 simp only [List.length_cons, List.length_append, List.length_map, m.st.2.1, blkL_len h]
theorem msL_0 (m : MsM) : (msL m).toArray[0]? = some (.int .i64 m.kd) := rfl
theorem msL_1 (m : MsM) : (msL m).toArray[1]? = some (.int .u64 (m.nc : Int)) := rfl
theorem msL_2 (m : MsM) : (msL m).toArray[2]? = some (.int .u32 (m.ht : Int)) := rfl
theorem msL_3 (m : MsM) : (msL m).toArray[3]? = some m.nv := rfl
theorem msL_st (m : MsM) (i : Nat) (hi : i < 32) : (msL m).toArray[4 + i]? = some (.int .u8 ((nth m.st.1 i : Nat) : Int)) := by
 rw [List.getElem?_toArray]
 unfold msL
 rw [show 4 + i = i + 1 + 1 + 1 + 1 by omega]
 simp only [List.getElem?_cons_succ]
 rw [List.getElem?_append_left (by rw [List.length_map, m.st.2.1]; exact hi), List.getElem?_map, List.getElem?_eq_getElem (by rw [m.st.2.1]; exact hi)]
 unfold nth
 rw [List.getD, List.getElem?_eq_getElem (by rw [m.st.2.1]; exact hi)]
 rfl
theorem msL_36 (m : MsM) : (msL m).toArray[36]? = some m.hv := by
 rw [List.getElem?_toArray]
 unfold msL
 simp only [List.getElem?_cons_succ]
 rw [List.getElem?_append_right (by rw [List.length_map, m.st.2.1]; decide), List.length_map, m.st.2.1]
 rfl
theorem msL_bk (m : MsM) (i : Nat) (v : Value) (h : (blkL m.bk)[i]? = some v) : (msL m).toArray[37 + i]? = some v := by
 rw [List.getElem?_toArray]
 unfold msL
 rw [show 37 + i = (33 + i) + 1 + 1 + 1 + 1 by omega]
 simp only [List.getElem?_cons_succ]
 rw [List.getElem?_append_right (by rw [List.length_map, m.st.2.1]; omega), List.length_map, m.st.2.1, show 33 + i - 32 = i + 1 by omega, List.getElem?_cons_succ]
 exact h
theorem ms_block {w : World} {g : Nat} {t : TypeId} {m : MsM} (K : Bk w g t (msL m).toArray) : w.rangeAt g 37 (blkL m.bk) := by
 intro j v hv
 have h := msL_bk m j v hv
 rw [K.cell]
 exact h
theorem blkL_one (b : BlkM) : ∀ v ∈ blkL b, v.oneCell' = true := fun v hv => by
 unfold blkL at hv
 rcases List.mem_append.1 hv with h | h
 ·exact msh_one b.hd v h
 ·rw [List.mem_singleton.1 h]; rfl
theorem msL_one (m : MsM) : ∀ v ∈ msL m, v.oneCell' = true := by
 intro v hv
 unfold msL at hv
 simp only [List.mem_cons, List.mem_append] at hv
 rcases hv with rfl | rfl | rfl | rfl | h | rfl | h
 ·rfl
 ·rfl
 ·rfl
 ·rfl
 ·exact by_ones _ v h
 ·rfl
 ·exact blkL_one _ v h
theorem MsV.keep {w w' : World} {B : Nat} {m : MsM} (h : MsV w B m) {C : Nat} (hb : Below C w w') (hC : B ≤ C) : MsV w' B m :=
 ⟨h.1, h.2.1.keep hb hC, h.2.2.1.keep hb hC, h.2.2.2.1, h.2.2.2.2.1.keep hb hC, fun t ht => (h.2.2.2.2.2 t ht).keep hb hC⟩
theorem MsV.mono {w : World} {B C : Nat} {m : MsM} (h : MsV w B m) (hC : B ≤ C) : MsV w C m :=
 ⟨h.1, h.2.1.mono hC, h.2.2.1.mono hC, h.2.2.2.1, h.2.2.2.2.1.mono hC, fun t ht => (h.2.2.2.2.2 t ht).mono hC⟩
def idsB (l : List I32) : List Nat := (l.map (·.1)).flatten
def hdsB (l : List HdI) : List Nat := (l.map fun h => hB h.1).flatten
def nmB (l : List I32) : List Nat := countL l.length ++ idsB l
def heB (l : List HdI) : List Nat := countL l.length ++ hdsB l
def dataL (m : MsM) : List Nat :=
 if m.kd = 1 then toL 1 4 ++ (toL m.nc 8 ++ toL m.ht 4)
 else if m.kd = 3 then nmB m.nm ++ m.st.1
 else if m.kd = 4 then heB m.hd
 else if m.kd = 5 ∨ m.kd = 6 ∨ m.kd = 8 then nmB m.nm
 else if m.kd = 7 then blkB m.bk
 else if m.kd = 9 ∨ m.kd = 10 then toL m.nc 8
 else []
def MsLong (m : MsM) : Prop := (m.kd = 3 ∧ 32 < m.nm.length) ∨ (m.kd = 4 ∧ 32 < m.hd.length) ∨ ((m.kd = 5 ∨ m.kd = 6 ∨ m.kd = 8) ∧ 64 < m.nm.length) ∨ (m.kd = 7 ∧ 8192 < (blkB m.bk).length)
instance (m : MsM) : Decidable (MsLong m) := by unfold MsLong; infer_instance
def msE (m : MsM) : Nat := if m.kd < 1 ∨ 10 < m.kd then 90 else if MsLong m then 2 else 0
theorem idsB_take (l : List I32) (k : Nat) (x : I32) (h : l[k]? = some x) : idsB (l.take (k + 1)) = idsB (l.take k) ++ x.1 := by
 unfold idsB
 rw [List.take_add_one, h, List.map_append, List.flatten_append]
 simp
theorem hdsB_take (l : List HdI) (k : Nat) (x : HdI) (h : l[k]? = some x) : hdsB (l.take (k + 1)) = hdsB (l.take k) ++ hB x.1 := by
 unfold hdsB
 rw [List.take_add_one, h, List.map_append, List.flatten_append]
 simp
theorem idsB_len (l : List I32) : (idsB l).length = 32 * l.length := by
 induction l with
 | nil => rfl
 | cons x r ih =>
  show (x.1 ++ idsB r).length = _
  rw [List.length_append, ih, x.2.1, List.length_cons]
  omega
theorem hdsB_len (l : List HdI) : (hdsB l).length = 80 * l.length := by
 induction l with
 | nil => rfl
 | cons x r ih =>
  show (hB x.1 ++ hdsB r).length = _
  rw [List.length_append, ih, hB_length x.2, List.length_cons]
  omega
theorem idsB_lt (l : List I32) : ∀ b ∈ idsB l, b < 256 := by
 intro b hb
 unfold idsB at hb
 simp only [List.mem_flatten, List.mem_map] at hb
 obtain ⟨_, ⟨x, _, rfl⟩, h⟩ := hb
 exact x.2.2 b h
theorem hdsB_lt (l : List HdI) : ∀ b ∈ hdsB l, b < 256 := by
 intro b hb
 unfold hdsB at hb
 simp only [List.mem_flatten, List.mem_map] at hb
 obtain ⟨_, ⟨x, _, rfl⟩, h⟩ := hb
 exact hB_lt x.2 b h
theorem nmB_lt (l : List I32) : ∀ b ∈ nmB l, b < 256 := fun b hb => by
 rcases List.mem_append.1 hb with h | h
 ·exact countL_lt _ b h
 ·exact idsB_lt l b h
theorem heB_lt (l : List HdI) : ∀ b ∈ heB l, b < 256 := fun b hb => by
 rcases List.mem_append.1 hb with h | h
 ·exact countL_lt _ b h
 ·exact hdsB_lt l b h
theorem nmB_len (l : List I32) : (nmB l).length ≤ 9 + 32 * l.length := by
 unfold nmB
 have := countL_len l.length
 rw [List.length_append, idsB_len]
 omega
theorem heB_len (l : List HdI) : (heB l).length ≤ 9 + 80 * l.length := by
 unfold heB
 have := countL_len l.length
 rw [List.length_append, hdsB_len]
 omega
theorem blkB_lt {w : World} {B : Nat} {b : BlkM} (h : BlkV w B b) : ∀ x ∈ blkB b, x < 256 := by
 intro x hx
 unfold blkB at hx
 simp only [List.mem_append] at hx
 rcases hx with h1 | h1 | h1
 ·exact hB_lt h.1 x h1
 ·exact countL_lt _ x h1
 ·exact txsB_lt h.2.2 x h1
theorem blkB_len {b : BlkM} (h : IsHd b.hd) (hf : BkFit b) : (blkB b).length ≤ 2000000000 := by
 have h1 := txsB_le b.txs b.txs.length hf.2
 rw [List.take_length] at h1
 have h2 := hB_length h
 have h3 := countL_len b.txs.length
 have h4 := hf.1
 unfold blkB
 rw [List.length_append, List.length_append]
 omega
theorem dataL_lt {w : World} {B : Nat} {m : MsM} (h : MsV w B m) : ∀ x ∈ dataL m, x < 256 := by
 intro x hx
 unfold dataL at hx
 split at hx
 ·simp only [List.mem_append] at hx
  rcases hx with h1 | h1 | h1 <;> exact toL_lt _ _ x h1
 ·split at hx
  ·rcases List.mem_append.1 hx with h1 | h1
   ·exact nmB_lt _ x h1
   ·exact m.st.2.2 x h1
  ·split at hx
   ·exact heB_lt _ x hx
   ·split at hx
    ·exact nmB_lt _ x hx
    ·split at hx
     ·exact blkB_lt h.2.2.2 x hx
     ·split at hx
      ·exact toL_lt _ _ x hx
      ·simp at hx
theorem dataL_len {m : MsM} (h : IsHd m.bk.hd) (hf : MsFit m) : (dataL m).length ≤ 2000000000 := by
 have h1 := nmB_len m.nm
 have h2 := heB_len m.hd
 have h3 := fun h7 : m.kd = 7 => blkB_len h (hf.2.2 h7)
 have h4 := hf.1
 have h5 := hf.2.1
 have h6 := m.st.2.1
 unfold dataL
 split
 ·simp only [List.length_append, toL_length]; omega
 ·split
  ·rw [List.length_append]; omega
  ·split
   ·omega
   ·split
    ·omega
    ·split
     ·rename_i h7
      have := h3 h7
      omega
     ·split
      ·rw [toL_length]; omega
      ·simp
theorem dataL_short {m : MsM} (h : ¬ MsLong m) : (dataL m).length ≤ 8192 := by
 have h1 := nmB_len m.nm
 have h2 := heB_len m.hd
 have h6 := m.st.2.1
 unfold MsLong at h
 unfold dataL
 split
 ·simp only [List.length_append, toL_length]; omega
 ·split
  ·rw [List.length_append]; omega
  ·split
   ·omega
   ·split
    ·omega
    ·split
     ·omega
     ·split
      ·rw [toL_length]; omega
      ·simp
def kindL : Nat → List Nat
 | 1 => [118, 101, 114, 115, 105, 111, 110]
 | 2 => [118, 101, 114, 97, 99, 107]
 | 3 => [103, 101, 116, 104, 101, 97, 100, 101, 114, 115]
 | 4 => [104, 101, 97, 100, 101, 114, 115]
 | 5 => [105, 110, 118]
 | 6 => [103, 101, 116, 100, 97, 116, 97]
 | 7 => [98, 108, 111, 99, 107]
 | 8 => [110, 111, 116, 102, 111, 117, 110, 100]
 | 9 => [112, 105, 110, 103]
 | 10 => [112, 111, 110, 103]
 | _ => []
end Go.Proofs.YtkpffjcdalclmaaDoor
namespace Go.Proofs.YtkpffjcdalclmaaDoor
open Go.RowKit
set_option linter.unusedVariables false
set_option linter.unusedSimpArgs false
set_option maxRecDepth 100000
theorem ht_id : (50 : Nat) ≠ 5 := by decide
theorem ht_ms : (58 : Nat) ≠ 5 := by decide
theorem id_made (x : I32) (w : World) : (storeCells ⟨w.heap.size, 0, none⟩ (x.1.map byteV)).run Tryd.prog (w.alloc (.cells #[.int .u8 0, .int .u8 0, .int .u8 0, .int .u8 0, .int .u8 0, .int .u8 0, .int .u8 0, .int .u8 0, .int .u8 0, .int .u8 0, .int .u8 0, .int .u8 0, .int .u8 0, .int .u8 0, .int .u8 0, .int .u8 0, .int .u8 0, .int .u8 0, .int .u8 0, .int .u8 0, .int .u8 0, .int .u8 0, .int .u8 0, .int .u8 0, .int .u8 0, .int .u8 0, .int .u8 0, .int .u8 0, .int .u8 0, .int .u8 0, .int .u8 0, .int .u8 0] 50)) = .ok () ((w.alloc (.cells #[.int .u8 0, .int .u8 0, .int .u8 0, .int .u8 0, .int .u8 0, .int .u8 0, .int .u8 0, .int .u8 0, .int .u8 0, .int .u8 0, .int .u8 0, .int .u8 0, .int .u8 0, .int .u8 0, .int .u8 0, .int .u8 0, .int .u8 0, .int .u8 0, .int .u8 0, .int .u8 0, .int .u8 0, .int .u8 0, .int .u8 0, .int .u8 0, .int .u8 0, .int .u8 0, .int .u8 0, .int .u8 0, .int .u8 0, .int .u8 0, .int .u8 0, .int .u8 0] 50)).setCells w.heap.size 0 (x.1.map byteV)) ∧ Bk ((w.alloc (.cells #[.int .u8 0, .int .u8 0, .int .u8 0, .int .u8 0, .int .u8 0, .int .u8 0, .int .u8 0, .int .u8 0, .int .u8 0, .int .u8 0, .int .u8 0, .int .u8 0, .int .u8 0, .int .u8 0, .int .u8 0, .int .u8 0, .int .u8 0, .int .u8 0, .int .u8 0, .int .u8 0, .int .u8 0, .int .u8 0, .int .u8 0, .int .u8 0, .int .u8 0, .int .u8 0, .int .u8 0, .int .u8 0, .int .u8 0, .int .u8 0, .int .u8 0, .int .u8 0] 50)).setCells w.heap.size 0 (x.1.map byteV)) w.heap.size 50 (x.1.map byteV).toArray ∧ Below w.heap.size w ((w.alloc (.cells #[.int .u8 0, .int .u8 0, .int .u8 0, .int .u8 0, .int .u8 0, .int .u8 0, .int .u8 0, .int .u8 0, .int .u8 0, .int .u8 0, .int .u8 0, .int .u8 0, .int .u8 0, .int .u8 0, .int .u8 0, .int .u8 0, .int .u8 0, .int .u8 0, .int .u8 0, .int .u8 0, .int .u8 0, .int .u8 0, .int .u8 0, .int .u8 0, .int .u8 0, .int .u8 0, .int .u8 0, .int .u8 0, .int .u8 0, .int .u8 0, .int .u8 0, .int .u8 0] 50)).setCells w.heap.size 0 (x.1.map byteV)) := row_made idR_ok x w _ _ rfl
theorem by_get (x : I32) (i : Nat) (hi : i < 32) : (x.1.map byteV)[i]? = some (.int .u8 ((nth x.1 i : Nat) : Int)) := by
 rw [List.getElem?_map, List.getElem?_eq_getElem (by rw [x.2.1]; exact hi)]
 unfold nth
 rw [List.getD, List.getElem?_eq_getElem (by rw [x.2.1]; exact hi)]
 rfl
theorem id_bsn {W : World} {b : Nat} {S : Nat → Prop} {x : I32} (K : Bk W b 50 (x.1.map byteV).toArray) (hS : ¬ S b) : BsN W S (.slice (some ⟨b, 0, none⟩) 32 32) x.1 :=
 ⟨some ⟨b, 0, none⟩, 32, by rw [x.2.1], by rw [x.2.1]; exact Nat.le_refl _, by omega, x.2.2, fun _ => ⟨b, 0, rfl, K.lt, hS, fun i hi => by
  rw [Nat.zero_add, K.cell, List.getElem?_toArray]
  exact by_get x i (by rw [← x.2.1]; exact hi)⟩⟩
set_option maxHeartbeats 8000000 in
theorem putnames_any (g lo B : Nat) (s0 : Option Addr) (n c : Nat) (L : List I32) (xs : List Nat) (v : Value) (w : World) (hG : Bk w g 104 #[v]) (hM : Mine w lo v xs) (hlo : lo ≤ w.heap.size) (hg : B ≤ g) (hBl : B ≤ lo) (hL : RowV idR w B (.slice s0 n c) L) (hn : n ≤ 100) (hlen : xs.length ≤ 100000) :
  Calls Tryd.prog 66 #[.pointer (some ⟨g, 0, none⟩), .slice s0 n c] w (Wrote g lo v (xs ++ nmB L) w) := by
 have hgw := hG.lt
 have HLO := Lib.hid (show lo ≤ w.heap.size ∧ B ≤ g ∧ B ≤ lo from ⟨hlo, hg, hBl⟩)
 have hnl : n = L.length := by obtain ⟨s, cap, e, _⟩ := hL; injection e
 have HN := Lib.hid hnl
 have HL : Hid (∀ k, k < n → ∃ x b o, L[k]? = some x ∧ s0 = some ⟨b, o, none⟩ ∧ b < B ∧ w.rangeAt b (o + k * 32) (x.1.map byteV)) := by
  show ∀ k, k < n → _
  rw [hnl]
  exact row_at hL
 have HM0 := Lib.hid hM
 have HLN := Lib.hid hlen
 have W0 := Lib.hid (Ws.refl hG hM)
 have hwr : IntKind.u64.wrap (n : Int) = (n : Int) := by simp [IntKind.wrap, IntKind.signed, IntKind.bits]; omega
 have HC := Lib.hid (count_any g lo n xs v w hG hM hlo (by omega))
 clear hG hM hlo hg hBl hL hgw hlen hnl
 go_enter Tryd.func66, Tryd.ntmps66
 go_wp2_with fail
 refine HC.out.mono ?_
 rintro e W1 h
 obtain ⟨rfl, v1, W1s⟩ := W0.out.call h
 have W1s := Lib.hid W1s
 clear h HC W0 hwr
 go_wp2_with fail
 go_loopw [13] (fun i wr => ∃ (k : Nat) (vr : Value), k ≤ n ∧ i = .int .i64 k ∧ Hid (Ws w g lo v wr vr ((xs ++ countL n) ++ idsB (L.take k)))) (fun i _ => n - (intOf i).toNat)
 case atStart => exact ⟨0, v1, Nat.zero_le _, rfl, by rw [List.take_zero]; show Ws _ _ _ _ _ _ ((xs ++ countL n) ++ []); rw [List.append_nil]; exact W1s.out⟩
 case round =>
  obtain ⟨k, vr, hk, rfl, HR⟩ := hrel
  clear W1s
  by_cases hlt : k < n
  ·obtain ⟨x, b, o, hkt, rfl, hbw, hrg⟩ := HL.out k hlt
   have j1 : decide ((k : Int) < (n : Int)) = true := decide_eq_true (by omega)
   have hTB := HR.out.below HM0.out HLO.out.2.2 HLO.out.2.1 (Nat.le_trans HLO.out.2.2 HLO.out.1)
   replace hrg := rr_below hrg hTB hbw
   have HST : Hid (((xs ++ countL n) ++ idsB (L.take k)) ++ x.1 = (xs ++ countL n) ++ idsB (L.take (k + 1))) := by
    show _ = _
    rw [idsB_take L k x hkt, List.append_assoc]
   have HYL : Hid (((xs ++ countL n) ++ idsB (L.take k)).length + 32 ≤ 200000) := by
    show _ ≤ _
    have h1 := HLN.out
    have h2 := countL_len n
    have h3 := idsB_len (L.take k)
    have h4 := List.length_take_le k L
    simp only [List.length_append]
    omega
   obtain ⟨Y, hY⟩ : ∃ Y, Y = (xs ++ countL n) ++ idsB (L.take k) := ⟨_, rfl⟩
   rw [← hY] at HR HST HYL
   have hbr : b < wr.heap.size := Nat.lt_of_lt_of_le hbw (Nat.le_trans (Nat.le_trans HLO.out.2.2 HLO.out.1) HR.out.B.size)
   obtain ⟨hstc, K7, B7⟩ := id_made x wr
   have hs32 : (x.1.map byteV).length = 32 := by rw [List.length_map, x.2.1]
   have hps := row_size idR_ok x
   have HR3 := Lib.hid (HR.out.later B7)
   have hg7 : wr.heap.size ≠ g := by have := HR.out.G.lt; omega
   have HG7 := Lib.hid hg7
   have HS3 := Lib.hid (show lo ≤ wr.heap.size from Nat.le_trans HLO.out.1 HR.out.B.size)
   change (Tryd.prog.info? 50).map (·.size) = some (x.1.map byteV).length at hps
   obtain ⟨PL, hPL⟩ : ∃ PL, PL = x.1.map byteV := ⟨_, rfl⟩
   have HPL := Lib.hid hPL
   rw [← hPL] at hrg hstc K7 B7 hs32 HR3 hps
   clear hPL hY hTB hkt hbw HR hg7
   go_upto_region 4 with (refine wpList_load_mid rfl 50 (.tmp 15) rfl b (o + k * 32) rfl PL _ hrg Tryd.underlying50 rfl hps ?_)
   refine wp_any (fun W => Ws w g lo v W vr Y ∧ Bk W wr.heap.size 50 PL.toArray ∧ lo ≤ W.heap.size) ⟨HR3.out, K7, Nat.le_trans HS3.out B7.size⟩ ?_
   clear HR3 hstc K7 B7 hps hs32 hrg hbr HS3
   generalize wr.heap.size = g7 at *
   clear wr
   rintro W3 ⟨h3, K7, hsz3⟩
   have K7 : Bk W3 g7 50 (x.1.map byteV).toArray := by rw [← HPL.out]; exact K7
   have z7 := K7.lt
   have HA3 : Below W3.heap.size W3 (W3.alloc (.cells #[.slice (some ⟨g7, 0, none⟩) 32 32] 32)) := (Below.refl _ _).alloc (Nat.le_refl _) _
   have M3 := h3.M.keep HA3
   have K7a := K7.alloc (.cells #[.slice (some ⟨g7, 0, none⟩) 32 32] 32)
   have hG3 := h3.G.lt
   have HC := raw_any g lo (some ⟨W3.heap.size, 0, none⟩) 1 [x.1] Y vr (W3.alloc (.cells #[.slice (some ⟨g7, 0, none⟩) 32 32] 32)) (h3.G.alloc _) M3 (Nat.le_trans hsz3 HA3.size) (by have := HYL.out; have := x.2.1; simp; omega) (by simp) (partsN_one (id_bsn K7a (not_s M3 K7a HG7.out ht_id)) (Bk.new _ _ _) (new_s h3.M hG3))
   simp only [List.flatten_cons, List.flatten_nil, List.append_nil] at HC
   have HC := Lib.hid HC
   have H3a := Lib.hid (h3.later HA3)
   clear h3 K7 M3 K7a HA3
   go_wp2_with fail
   refine HC.out.mono ?_
   rintro e W4 h
   obtain ⟨rfl, v4, H4⟩ := H3a.out.call h
   rw [HST.out] at H4
   have H4 := Lib.hid H4
   clear h HC H3a
   go_wp2_with fail
   go_roundw
   case rel => exact ⟨k + 1, v4, by omega, by go_num, H4⟩
   case measure => simp [intOf]; omega
  ·obtain rfl : k = n := by omega
   have j1 : decide ((k : Int) < (k : Int)) = false := decide_eq_false (by omega)
   have HR2 : Hid (Ws w g lo v wr vr (xs ++ nmB L)) := by
    have h := HR.out
    rw [HN.out, List.take_length, List.append_assoc] at h
    exact h
   clear hlt HR
   go_wp2_with fail
   go_end0
   exact HR2.out.wrote
end Go.Proofs.YtkpffjcdalclmaaDoor
namespace Go.Proofs.YtkpffjcdalclmaaDoor
open Go.RowKit
set_option linter.unusedVariables false
set_option linter.unusedSimpArgs false
set_option maxRecDepth 100000
theorem ms_bsn {W : World} {b : Nat} {S : Nat → Prop} {m : MsM} (K : Bk W b 58 (msL m).toArray) (hS : ¬ S b) : BsN W S (.slice (some ⟨b, 4, none⟩) 32 32) m.st.1 :=
 ⟨some ⟨b, 4, none⟩, 32, by rw [m.st.2.1], by rw [m.st.2.1]; exact Nat.le_refl _, by omega, m.st.2.2, fun _ => ⟨b, 4, rfl, K.lt, hS, fun i hi => by
  rw [K.cell]
  exact msL_st m i (by rw [← m.st.2.1]; exact hi)⟩⟩
theorem hd_made (x : HdI) (w : World) : (storeCells ⟨w.heap.size, 0, none⟩ (hdL x.1)).run Tryd.prog (w.alloc (.cells Tryd.zeroCells53 53)) = .ok () ((w.alloc (.cells Tryd.zeroCells53 53)).setCells w.heap.size 0 (hdL x.1)) ∧ Bk ((w.alloc (.cells Tryd.zeroCells53 53)).setCells w.heap.size 0 (hdL x.1)) w.heap.size 53 (hdL x.1).toArray ∧ Below w.heap.size w ((w.alloc (.cells Tryd.zeroCells53 53)).setCells w.heap.size 0 (hdL x.1)) := row_made hdR_ok x w _ _ rfl
theorem hd_range {w : World} {g : Nat} {t : TypeId} {L : List Value} (K : Bk w g t L.toArray) : w.rangeAt g 0 L := fun j v hv => K.range0 j v hv
theorem kinds10 (k : Int) : k = 1 ∨ k = 3 ∨ k = 4 ∨ k = 5 ∨ k = 6 ∨ k = 8 ∨ k = 7 ∨ k = 9 ∨ k = 10 ∨ (k ≠ 1 ∧ k ≠ 3 ∧ k ≠ 4 ∧ k ≠ 5 ∧ k ≠ 6 ∧ k ≠ 8 ∧ k ≠ 7 ∧ k ≠ 9 ∧ k ≠ 10) := by omega
theorem data_1 {m : MsM} (h : 1 = m.kd) : dataL m = toL 1 4 ++ (toL m.nc 8 ++ toL m.ht 4) := by unfold dataL; rw [← h]; rfl
theorem data_3 {m : MsM} (h : 3 = m.kd) : dataL m = nmB m.nm ++ m.st.1 := by unfold dataL; rw [← h]; rfl
theorem data_4 {m : MsM} (h : 4 = m.kd) : dataL m = heB m.hd := by unfold dataL; rw [← h]; rfl
theorem data_5 {m : MsM} (h : 5 = m.kd) : dataL m = nmB m.nm := by unfold dataL; rw [← h]; rfl
theorem data_6 {m : MsM} (h : 6 = m.kd) : dataL m = nmB m.nm := by unfold dataL; rw [← h]; rfl
theorem data_8 {m : MsM} (h : 8 = m.kd) : dataL m = nmB m.nm := by unfold dataL; rw [← h]; rfl
theorem data_7 {m : MsM} (h : 7 = m.kd) : dataL m = blkB m.bk := by unfold dataL; rw [← h]; rfl
theorem data_9 {m : MsM} (h : 9 = m.kd) : dataL m = toL m.nc 8 := by unfold dataL; rw [← h]; rfl
theorem data_10 {m : MsM} (h : 10 = m.kd) : dataL m = toL m.nc 8 := by unfold dataL; rw [← h]; rfl
theorem data_x {m : MsM} {k : Int} (h : k = m.kd) (n : k ≠ 1 ∧ k ≠ 3 ∧ k ≠ 4 ∧ k ≠ 5 ∧ k ≠ 6 ∧ k ≠ 8 ∧ k ≠ 7 ∧ k ≠ 9 ∧ k ≠ 10) : dataL m = [] := by
 unfold dataL
 rw [← h]
 obtain ⟨n1, n3, n4, n5, n6, n8, n7, n9, n10⟩ := n
 rw [if_neg n1, if_neg n3, if_neg n4, if_neg (by omega), if_neg n7, if_neg (by omega)]
theorem blk_infoS : (Tryd.prog.info? 56).map (·.size) = some 69 := by kernel_rfl
set_option maxHeartbeats 16000000 in
theorem mdata_any (m : MsM) (w : World) (hV : MsV w w.heap.size m) (hF : MsFit m) :
  Calls Tryd.prog 44 #[.agg (msL m).toArray] w fun e w' => ∃ v', e = .returned v' ∧ Mine w' w.heap.size v' (dataL m) ∧ Below w.heap.size w w' := by
 have HV := Lib.hid hV
 have HF := Lib.hid hF
 have HDX := Lib.hid (dataL_lt hV)
 have HDL := Lib.hid (dataL_len hV.1.2.2.2 hF)
 have hms := fun (W : World) (g : Nat) (K : Bk W g 58 (msL m).toArray) => ms_block K
 have HBS : Hid (∀ (W : World) (g : Nat) (S : Nat → Prop), Bk W g 58 (msL m).toArray → ¬ S g → BsN W S (.slice (some ⟨g, 4, none⟩) 32 32) m.st.1) := fun W g S K h => ms_bsn K h
 have HMS := Lib.hid hms
 have h0 := msL_0 m
 have h1 := msL_1 m
 have h2 := msL_2 m
 have h3 := msL_3 m
 have h36 := msL_36 m
 obtain ⟨kd, hkd⟩ : ∃ kd, kd = m.kd := ⟨_, rfl⟩
 rw [← hkd] at h0
 have HKD := Lib.hid hkd
 unfold MsM.nv at h3
 unfold MsM.hv at h36
 obtain ⟨n3, hn3⟩ : ∃ n, n = m.nm.length := ⟨_, rfl⟩
 obtain ⟨n5, hn5⟩ : ∃ n, n = m.hd.length := ⟨_, rfl⟩
 rw [← hn3] at h3
 rw [← hn5] at h36
 have HN3 := Lib.hid hn3
 have HN5 := Lib.hid hn5
 obtain ⟨A, hA⟩ : ∃ A, A = (msL m).toArray := ⟨_, rfl⟩
 rw [← hA] at h0 h1 h2 h3 h36 HMS HBS ⊢
 have H0 := Lib.hid h0
 have H1 := Lib.hid h1
 have H2 := Lib.hid h2
 have H3 := Lib.hid h3
 have H36 := Lib.hid h36
 have HB8 : Hid (8 ≤ 8) := Nat.le_refl _
 clear hV hF hA hms h0 h1 h2 h3 h36 hkd hn3 hn5
 go_enter Tryd.func44, Tryd.ntmps44
 go_upto_region 2 with fail
 refine wp_any (fun W => Below w.heap.size w W ∧ Bk W w.heap.size 58 A ∧ Bk W (w.heap.size + 1) 104 #[.slice none 0 0] ∧ W.heap.size = w.heap.size + 2) ⟨((Below.refl _ _).alloc (Nat.le_refl _) _).alloc (by simp) _, (Bk.new _ _ _).alloc _, Bk.new' _ _ _ (by simp), by simp⟩ ?_
 rintro W ⟨hW, K0, KG, hsz⟩
 obtain ⟨g0, hg0⟩ : ∃ g0, g0 = w.heap.size := ⟨_, rfl⟩
 obtain ⟨g, hg⟩ : ∃ g, g = w.heap.size + 1 := ⟨_, rfl⟩
 have HG := Lib.hid (show g0 = w.heap.size ∧ g = w.heap.size + 1 ∧ W.heap.size = g + 1 ∧ g0 < g from ⟨hg0, hg, by omega, by omega⟩)
 rw [← hg] at KG ⊢
 rw [← hg0] at K0 ⊢
 have HW := Lib.hid hW
 have hne : g0 ≠ g := by omega
 have HNE := Lib.hid hne
 have M0 : Mine W g (.slice none 0 0) [] := .inl ⟨rfl, rfl⟩
 have HM0 := Lib.hid M0
 have HS := Lib.hid (Ws.refl KG M0)
 have HK0 := Lib.hid K0
 have c0 := (K0.cell 0).trans H0.out
 have z0 := K0.lt
 have HMV : Hid (∀ W' v X, Ws W g g (.slice none 0 0) W' v X → Below w.heap.size w W' ∧ Bk W' g0 58 A ∧ g < W'.heap.size ∧ Below w.heap.size W W') := fun W' v X h => by
  have h1 : Below w.heap.size W W' := h.below M0 (B := w.heap.size) (by omega) (by omega) (by omega)
  exact ⟨hW.trans h1, h.bk M0 K0 hne ht_ms, h.G.lt, h1⟩
 clear hsz hg0 hg hW hne K0 KG M0
 rcases kinds10 kd with rfl | rfl | rfl | rfl | rfl | rfl | rfl | rfl | rfl | hx
 ·have HA1 : Below W.heap.size W (W.alloc (.cells #[.int .u64 1] 22)) := (Below.refl _ _).alloc (Nat.le_refl _) _
  have HC := put_any g g W.heap.size 4 1 ([]) (.slice none 0 0) (W.alloc (.cells #[.int .u64 1] 22)) (HS.out.G.alloc _) (HS.out.M.keep HA1) (Nat.le_trans (Nat.le_of_lt HS.out.G.lt) HA1.size) (Bk.new _ _ _) (by simp)
  rw [show sz8 4 = 4 by decide] at HC
  have HC := Lib.hid HC
  have HS := Lib.hid (HS.out.later HA1)
  clear HA1
  go_wp2_with fail
  refine HC.out.mono ?_
  rintro e W2 h
  obtain ⟨rfl, v2, HS⟩ := HS.out.call h
  have HS := Lib.hid HS
  clear h HC
  have K1 := (HMV.out _ _ _ HS.out).2.1
  have c1 := (K1.cell 1).trans H1.out
  have z1 := K1.lt
  clear c0 z0 K1
  have HA1 : Below W2.heap.size W2 (W2.alloc (.cells #[.int .u64 (m.nc : Int)] 22)) := (Below.refl _ _).alloc (Nat.le_refl _) _
  have HC := put_any g g W2.heap.size 8 m.nc ([] ++ toL 1 4) v2 (W2.alloc (.cells #[.int .u64 (m.nc : Int)] 22)) (HS.out.G.alloc _) (HS.out.M.keep HA1) (Nat.le_trans (Nat.le_of_lt HS.out.G.lt) HA1.size) (Bk.new _ _ _) (by simp [toL_length])
  rw [show sz8 8 = 8 by decide] at HC
  have HC := Lib.hid HC
  have HS := Lib.hid (HS.out.later HA1)
  clear HA1
  go_wp2_with fail
  refine HC.out.mono ?_
  rintro e W3 h
  obtain ⟨rfl, v3, HS⟩ := HS.out.call h
  have HS := Lib.hid HS
  clear h HC
  have K2 := (HMV.out _ _ _ HS.out).2.1
  have c2 := (K2.cell 2).trans H2.out
  have z2 := K2.lt
  have hwt : IntKind.u64.wrap (m.ht : Int) = (m.ht : Int) := by have := HV.out.1.2.2.1; simp [IntKind.wrap, IntKind.signed, IntKind.bits]; omega
  clear c1 z1 K2
  have HA1 : Below W3.heap.size W3 (W3.alloc (.cells #[.int .u64 (m.ht : Int)] 22)) := (Below.refl _ _).alloc (Nat.le_refl _) _
  have HC := put_any g g W3.heap.size 4 m.ht (([] ++ toL 1 4) ++ toL m.nc 8) v3 (W3.alloc (.cells #[.int .u64 (m.ht : Int)] 22)) (HS.out.G.alloc _) (HS.out.M.keep HA1) (Nat.le_trans (Nat.le_of_lt HS.out.G.lt) HA1.size) (Bk.new _ _ _) (by simp [toL_length])
  rw [show sz8 4 = 4 by decide] at HC
  have HC := Lib.hid HC
  have HS := Lib.hid (HS.out.later HA1)
  clear HA1
  go_wp2_with fail
  refine HC.out.mono ?_
  rintro e W4 h
  obtain ⟨rfl, v4, HS⟩ := HS.out.call h
  have HS := Lib.hid HS
  clear h HC
  clear c2 z2 hwt
  have HS : Hid (Ws W g g (.slice none 0 0) W4 v4 (dataL m)) := by
   have h := HS.out
   show Ws _ _ _ _ _ _ _
   rw [data_1 HKD.out]
   simpa only [List.nil_append, List.append_assoc] using h
  have HD := Lib.hid (HMV.out _ _ _ HS.out)
  have HB := Lib.hid (bytes_any g g (dataL m) v4 W4 HS.out.G HS.out.M HDX.out (by have := HDL.out; omega))
  go_wp2_with fail
  refine HB.out.mono ?_
  rintro e w' ⟨v', rfl, M', B'⟩
  have MM := M'.mono HD.out.1.size
  have hw' := below_step HD.out.1 HD.out.1.size B'
  obtain ⟨s', c', rfl⟩ := M'.slice
  have MM := Lib.hid MM
  clear M' B'
  go_wp2_with fail
  go_ret
  exact ⟨_, rfl, MM.out, hw'⟩
 ·have K3 := (HMV.out _ _ _ HS.out).2.1
  have c3 := (K3.cell 3).trans H3.out
  have z3 := K3.lt
  have hrow : RowV idR W w.heap.size (.slice m.ns n3 m.cn) m.nm := by rw [HN3.out]; exact HV.out.2.1.keep (HMV.out _ _ _ HS.out).1 (Nat.le_refl _)
  have HC := Lib.hid (putnames_any g g w.heap.size m.ns n3 m.cn m.nm [] ((.slice none 0 0)) W HS.out.G HS.out.M (Nat.le_of_lt HS.out.G.lt) (by have := HG.out; omega) (by have := HG.out; omega) hrow (by have := HN3.out; have := HF.out.1; omega) (by simp))
  generalize m.ns = mns at *
  generalize m.cn = mcn at *
  clear K3 hrow
  go_wp2_with fail
  refine HC.out.mono ?_
  rintro e W2 h
  obtain ⟨rfl, v2, HS⟩ := HS.out.call h
  have HS := Lib.hid HS
  clear h HC c3 z3
  have K2 := (HMV.out _ _ _ HS.out).2.1
  have z2 := K2.lt
  have HA3 : Below W2.heap.size W2 (W2.alloc (.cells #[.slice (some ⟨g0, 4, none⟩) 32 32] 32)) := (Below.refl _ _).alloc (Nat.le_refl _) _
  have M3 := HS.out.M.keep HA3
  have K2a := K2.alloc (.cells #[.slice (some ⟨g0, 4, none⟩) 32 32] 32)
  have hG3 := HS.out.G.lt
  have HC := raw_any g g (some ⟨W2.heap.size, 0, none⟩) 1 [m.st.1] ([] ++ nmB m.nm) v2 (W2.alloc (.cells #[.slice (some ⟨g0, 4, none⟩) 32 32] 32)) (HS.out.G.alloc _) M3 (Nat.le_trans (Nat.le_of_lt hG3) HA3.size) (by have h1 := nmB_len m.nm; have h2 := HF.out.1; have := m.st.2.1; simp; omega) (by simp) (partsN_one (HBS.out _ _ _ K2a (not_s M3 K2a HNE.out ht_ms)) (Bk.new _ _ _) (new_s HS.out.M hG3))
  simp only [List.flatten_cons, List.flatten_nil, List.append_nil] at HC
  have HC := Lib.hid HC
  have HS := Lib.hid (HS.out.later HA3)
  clear K2 M3 K2a HA3 hG3 c0 z0
  go_wp2_with fail
  refine HC.out.mono ?_
  rintro e W3 h
  obtain ⟨rfl, v3, HS⟩ := HS.out.call h
  have HS := Lib.hid HS
  clear h HC z2
  have HS : Hid (Ws W g g (.slice none 0 0) W3 v3 (dataL m)) := by
   have h := HS.out
   show Ws _ _ _ _ _ _ _
   rw [data_3 HKD.out]
   simpa only [List.nil_append, List.append_assoc] using h
  have HD := Lib.hid (HMV.out _ _ _ HS.out)
  have HB := Lib.hid (bytes_any g g (dataL m) v3 W3 HS.out.G HS.out.M HDX.out (by have := HDL.out; omega))
  go_wp2_with fail
  refine HB.out.mono ?_
  rintro e w' ⟨v', rfl, M', B'⟩
  have MM := M'.mono HD.out.1.size
  have hw' := below_step HD.out.1 HD.out.1.size B'
  obtain ⟨s', c', rfl⟩ := M'.slice
  have MM := Lib.hid MM
  clear M' B'
  go_wp2_with fail
  go_ret
  exact ⟨_, rfl, MM.out, hw'⟩
 ·have K3 := (HMV.out _ _ _ HS.out).2.1
  have c36 := (K3.cell 36).trans H36.out
  have z3 := K3.lt
  have hwr : IntKind.u64.wrap (n5 : Int) = (n5 : Int) := by have := HN5.out; have := HF.out.2.1; simp [IntKind.wrap, IntKind.signed, IntKind.bits]; omega
  have HC := Lib.hid (count_any g g n5 [] (.slice none 0 0) W HS.out.G HS.out.M (Nat.le_of_lt HS.out.G.lt) (by simp))
  have hn40 : n5 < 1000 := by have := HN5.out; have := HF.out.2.1; omega
  have HL : Hid (∀ k, k < n5 → ∃ x b o, m.hd[k]? = some x ∧ m.hs = some ⟨b, o, none⟩ ∧ b < w.heap.size ∧ w.rangeAt b (o + k * 68) (hdL x.1)) := by
   show ∀ k, k < n5 → _
   rw [HN5.out]
   exact row_at HV.out.2.2.1
  generalize m.hs = mhs at *
  generalize m.ch = mch at *
  clear K3
  go_wp2_with fail
  refine HC.out.mono ?_
  rintro e W2 h
  obtain ⟨rfl, v2, HS⟩ := HS.out.call h
  have HS := Lib.hid HS
  have K3 := (HMV.out _ _ _ HS.out).2.1
  have c36 := (K3.cell 36).trans H36.out
  have z3 := K3.lt
  clear h HC hwr c0 z0 K3
  go_wp2_with fail
  go_loopw [50] (fun i wr => ∃ (k : Nat) (vr : Value), k ≤ n5 ∧ i = .int .i64 k ∧ Hid (Ws W g g (.slice none 0 0) wr vr (countL n5 ++ hdsB (m.hd.take k)))) (fun i _ => n5 - (intOf i).toNat)
  case atStart => exact ⟨0, v2, Nat.zero_le _, rfl, by
   rw [List.take_zero]
   have h := HS.out
   show Ws _ _ _ _ _ _ (countL n5 ++ [])
   rw [List.append_nil]
   exact h⟩
  case round =>
   obtain ⟨k, vr, hk, rfl, HR⟩ := hrel
   clear HS c36 z3
   by_cases hlt : k < n5
   ·obtain ⟨x, b, o, hkt, rfl, hbw, hrg⟩ := HL.out k hlt
    have j1 : decide ((k : Int) < (n5 : Int)) = true := decide_eq_true (by omega)
    have hTB := (HMV.out _ _ _ HR.out).1
    replace hrg := rr_below hrg hTB hbw
    have HST : Hid ((countL n5 ++ hdsB (m.hd.take k)) ++ hB x.1 = countL n5 ++ hdsB (m.hd.take (k + 1))) := by
     show _ = _
     rw [hdsB_take m.hd k x hkt, List.append_assoc]
    have HYL : Hid ((countL n5 ++ hdsB (m.hd.take k)).length + 80 ≤ 200000) := by
     show _ ≤ _
     have h2 := countL_len n5
     have h3 := hdsB_len (m.hd.take k)
     have h4 := List.length_take_le k m.hd
     have h5 := HF.out.2.1
     have h6 := HN5.out
     simp only [List.length_append]
     omega
    obtain ⟨Y, hY⟩ : ∃ Y, Y = countL n5 ++ hdsB (m.hd.take k) := ⟨_, rfl⟩
    rw [← hY] at HR HST HYL
    have hbr : b < wr.heap.size := Nat.lt_of_lt_of_le hbw hTB.size
    obtain ⟨hstc, K7, B7⟩ := hd_made x wr
    have hs68 : (hdL x.1).length = 68 := hdL_length x.2
    have hps := row_size hdR_ok x
    change (Tryd.prog.info? 53).map (·.size) = some (hdL x.1).length at hps
    have HR3 := Lib.hid (HR.out.later B7)
    have hg7 : wr.heap.size ≠ g := by have := HR.out.G.lt; omega
    have HG7 := Lib.hid hg7
    have HS3 := Lib.hid (show g < wr.heap.size from HR.out.G.lt)
    have HHB : Hid (∀ W, Calls Tryd.prog 68 #[.agg (hdL x.1).toArray] W fun e w' => ∃ v', e = .returned v' ∧ MineR byR w' W.heap.size v' (hB x.1) ∧ Below W.heap.size W w') := fun W => hbytes_any x.1 W x.2
    obtain ⟨PL, hPL⟩ : ∃ PL, PL = hdL x.1 := ⟨_, rfl⟩
    rw [← hPL] at hrg hstc K7 B7 hs68 HR3 hps HHB
    have HPS := Lib.hid hps
    clear hPL hY hTB hkt hbw HR hg7
    go_upto_region 21 with (refine wpList_load_mid rfl 53 (.tmp 52) rfl b (o + k * 68) rfl PL _ hrg Tryd.underlying53 rfl hps ?_)
    refine wp_any (fun W' => Ws W g g (.slice none 0 0) W' vr Y ∧ Bk W' wr.heap.size 53 PL.toArray) ⟨HR3.out, K7⟩ ?_
    clear HR3 hstc K7 B7 hps hs68 hrg hbr HS3
    generalize wr.heap.size = g7 at *
    clear wr
    rintro W3 ⟨h3, K7⟩
    have hrg := hd_range K7
    have hps := HPS.out
    have z7 := K7.lt
    have H3 := Lib.hid h3
    clear h3 K7
    go_wp2_with (refine wpList_load_mid rfl 53 (.tmp 5) rfl g7 0 rfl PL _ hrg Tryd.underlying53 rfl hps ?_)
    refine (HHB.out W3).mono ?_
    rintro e W4 ⟨v4, rfl, M4, hb4⟩
    have HS4 := Lib.hid (H3.out.later hb4)
    obtain ⟨s4, c4, rfl⟩ := M4.slice
    obtain ⟨l4, hl4⟩ : ∃ l4, l4 = (hB x.1).length := ⟨_, rfl⟩
    rw [← hl4] at M4 ⊢
    have HL4 : Hid ((hB x.1).length = 80) := hB_length x.2
    have hA4 : Below W4.heap.size W4 (W4.alloc (.cells #[.slice s4 l4 c4] 32)) := (Below.refl _ _).alloc (Nat.le_refl _) _
    have hbn : BsN (W4.alloc (.cells #[.slice s4 l4 c4] 32)) (fun k => k = g ∨ slb vr k) (.slice s4 l4 c4) (hB x.1) := by
     have M4' : Mine W4 W3.heap.size (.slice s4 l4 c4) (hB x.1) := M4.mine
     refine mine_bsn (M4'.keep hA4) (hB_lt x.2) (fun k hk _ => ?_)
     rintro (h | h)
     ·have := H3.out.G.lt; omega
     ·have := (H3.out.M.slb_lo h).2.1; omega
    have HC := raw_any g g (some ⟨W4.heap.size, 0, none⟩) 1 [hB x.1] Y vr (W4.alloc (.cells #[.slice s4 l4 c4] 32)) (HS4.out.G.alloc _) (HS4.out.M.keep hA4) (Nat.le_trans (Nat.le_of_lt HS4.out.G.lt) hA4.size) (by have := HYL.out; have := HL4.out; simp; omega) (by simp) (partsN_one hbn (Bk.new _ _ _) (new_s HS4.out.M HS4.out.G.lt))
    simp only [List.flatten_cons, List.flatten_nil, List.append_nil] at HC
    have HC := Lib.hid HC
    have HS4 := Lib.hid (HS4.out.later hA4)
    clear hA4 hbn M4 hb4 hrg hps z7 H3 hl4
    go_wp2_with fail
    refine HC.out.mono ?_
    rintro e W5 h
    obtain ⟨rfl, v5, H5⟩ := HS4.out.call h
    rw [HST.out] at H5
    have H5 := Lib.hid H5
    clear h HC HS4
    go_wp2_with fail
    go_roundw
    case rel => exact ⟨k + 1, v5, by omega, by go_num, H5⟩
    case measure => simp [intOf]; omega
   ·obtain rfl : k = n5 := by omega
    have j1 : decide ((k : Int) < (k : Int)) = false := decide_eq_false (by omega)
    have HS : Hid (Ws W g g (.slice none 0 0) wr vr (heB m.hd)) := by
     have h := HR.out
     rw [HN5.out, List.take_length] at h
     exact h
    clear hlt HR
    have HS : Hid (Ws W g g (.slice none 0 0) wr vr (dataL m)) := by
     have h := HS.out
     show Ws _ _ _ _ _ _ _
     rw [data_4 HKD.out]
     simpa only [List.nil_append, List.append_assoc] using h
    have HD := Lib.hid (HMV.out _ _ _ HS.out)
    have HB := Lib.hid (bytes_any g g (dataL m) vr wr HS.out.G HS.out.M HDX.out (by have := HDL.out; omega))
    go_wp2_with fail
    refine HB.out.mono ?_
    rintro e w' ⟨v', rfl, M', B'⟩
    have MM := M'.mono HD.out.1.size
    have hw' := below_step HD.out.1 HD.out.1.size B'
    obtain ⟨s', c', rfl⟩ := M'.slice
    have MM := Lib.hid MM
    clear M' B'
    go_wp2_with fail
    go_ret
    exact ⟨_, rfl, MM.out, hw'⟩
 ·have K3 := (HMV.out _ _ _ HS.out).2.1
  have c3 := (K3.cell 3).trans H3.out
  have z3 := K3.lt
  have hrow : RowV idR W w.heap.size (.slice m.ns n3 m.cn) m.nm := by rw [HN3.out]; exact HV.out.2.1.keep (HMV.out _ _ _ HS.out).1 (Nat.le_refl _)
  have HC := Lib.hid (putnames_any g g w.heap.size m.ns n3 m.cn m.nm [] ((.slice none 0 0)) W HS.out.G HS.out.M (Nat.le_of_lt HS.out.G.lt) (by have := HG.out; omega) (by have := HG.out; omega) hrow (by have := HN3.out; have := HF.out.1; omega) (by simp))
  generalize m.ns = mns at *
  generalize m.cn = mcn at *
  clear K3 hrow
  go_wp2_with fail
  refine HC.out.mono ?_
  rintro e W2 h
  obtain ⟨rfl, v2, HS⟩ := HS.out.call h
  have HS := Lib.hid HS
  clear h HC c3 z3
  clear c0 z0
  have HS : Hid (Ws W g g (.slice none 0 0) W2 v2 (dataL m)) := by
   have h := HS.out
   show Ws _ _ _ _ _ _ _
   rw [data_5 HKD.out]
   simpa only [List.nil_append, List.append_assoc] using h
  have HD := Lib.hid (HMV.out _ _ _ HS.out)
  have HB := Lib.hid (bytes_any g g (dataL m) v2 W2 HS.out.G HS.out.M HDX.out (by have := HDL.out; omega))
  go_wp2_with fail
  refine HB.out.mono ?_
  rintro e w' ⟨v', rfl, M', B'⟩
  have MM := M'.mono HD.out.1.size
  have hw' := below_step HD.out.1 HD.out.1.size B'
  obtain ⟨s', c', rfl⟩ := M'.slice
  have MM := Lib.hid MM
  clear M' B'
  go_wp2_with fail
  go_ret
  exact ⟨_, rfl, MM.out, hw'⟩
 ·have K3 := (HMV.out _ _ _ HS.out).2.1
  have c3 := (K3.cell 3).trans H3.out
  have z3 := K3.lt
  have hrow : RowV idR W w.heap.size (.slice m.ns n3 m.cn) m.nm := by rw [HN3.out]; exact HV.out.2.1.keep (HMV.out _ _ _ HS.out).1 (Nat.le_refl _)
  have HC := Lib.hid (putnames_any g g w.heap.size m.ns n3 m.cn m.nm [] ((.slice none 0 0)) W HS.out.G HS.out.M (Nat.le_of_lt HS.out.G.lt) (by have := HG.out; omega) (by have := HG.out; omega) hrow (by have := HN3.out; have := HF.out.1; omega) (by simp))
  generalize m.ns = mns at *
  generalize m.cn = mcn at *
  clear K3 hrow
  go_wp2_with fail
  refine HC.out.mono ?_
  rintro e W2 h
  obtain ⟨rfl, v2, HS⟩ := HS.out.call h
  have HS := Lib.hid HS
  clear h HC c3 z3
  clear c0 z0
  have HS : Hid (Ws W g g (.slice none 0 0) W2 v2 (dataL m)) := by
   have h := HS.out
   show Ws _ _ _ _ _ _ _
   rw [data_6 HKD.out]
   simpa only [List.nil_append, List.append_assoc] using h
  have HD := Lib.hid (HMV.out _ _ _ HS.out)
  have HB := Lib.hid (bytes_any g g (dataL m) v2 W2 HS.out.G HS.out.M HDX.out (by have := HDL.out; omega))
  go_wp2_with fail
  refine HB.out.mono ?_
  rintro e w' ⟨v', rfl, M', B'⟩
  have MM := M'.mono HD.out.1.size
  have hw' := below_step HD.out.1 HD.out.1.size B'
  obtain ⟨s', c', rfl⟩ := M'.slice
  have MM := Lib.hid MM
  clear M' B'
  go_wp2_with fail
  go_ret
  exact ⟨_, rfl, MM.out, hw'⟩
 ·have K3 := (HMV.out _ _ _ HS.out).2.1
  have c3 := (K3.cell 3).trans H3.out
  have z3 := K3.lt
  have hrow : RowV idR W w.heap.size (.slice m.ns n3 m.cn) m.nm := by rw [HN3.out]; exact HV.out.2.1.keep (HMV.out _ _ _ HS.out).1 (Nat.le_refl _)
  have HC := Lib.hid (putnames_any g g w.heap.size m.ns n3 m.cn m.nm [] ((.slice none 0 0)) W HS.out.G HS.out.M (Nat.le_of_lt HS.out.G.lt) (by have := HG.out; omega) (by have := HG.out; omega) hrow (by have := HN3.out; have := HF.out.1; omega) (by simp))
  generalize m.ns = mns at *
  generalize m.cn = mcn at *
  clear K3 hrow
  go_wp2_with fail
  refine HC.out.mono ?_
  rintro e W2 h
  obtain ⟨rfl, v2, HS⟩ := HS.out.call h
  have HS := Lib.hid HS
  clear h HC c3 z3
  clear c0 z0
  have HS : Hid (Ws W g g (.slice none 0 0) W2 v2 (dataL m)) := by
   have h := HS.out
   show Ws _ _ _ _ _ _ _
   rw [data_8 HKD.out]
   simpa only [List.nil_append, List.append_assoc] using h
  have HD := Lib.hid (HMV.out _ _ _ HS.out)
  have HB := Lib.hid (bytes_any g g (dataL m) v2 W2 HS.out.G HS.out.M HDX.out (by have := HDL.out; omega))
  go_wp2_with fail
  refine HB.out.mono ?_
  rintro e w' ⟨v', rfl, M', B'⟩
  have MM := M'.mono HD.out.1.size
  have hw' := below_step HD.out.1 HD.out.1.size B'
  obtain ⟨s', c', rfl⟩ := M'.slice
  have MM := Lib.hid MM
  clear M' B'
  go_wp2_with fail
  go_ret
  exact ⟨_, rfl, MM.out, hw'⟩
 ·have K3 := (HMV.out _ _ _ HS.out).2.1
  have hrg := HMS.out W g0 K3
  have z3 := K3.lt
  have HBL := Lib.hid (blkL_len HV.out.1.2.2.2)
  have hps : (Tryd.prog.info? 56).map (·.size) = some (blkL m.bk).length := by rw [HBL.out]; exact blk_infoS
  have HTB := Lib.hid (tblock_any m.bk W ⟨HV.out.1.2.2.2, (HV.out.keep HW.out (Nat.le_refl _)).2.2.2.2.1.mono HW.out.size, fun t ht => ((HV.out.keep HW.out (Nat.le_refl _)).2.2.2.2.2 t ht).mono HW.out.size⟩ (HF.out.2.2 HKD.out.symm).2 (HF.out.2.2 HKD.out.symm).1)
  have HBX := Lib.hid (blkB_lt HV.out.2.2.2)
  have HBN := Lib.hid (blkB_len HV.out.1.2.2.2 (HF.out.2.2 HKD.out.symm))
  obtain ⟨PL, hPL⟩ : ∃ PL, PL = blkL m.bk := ⟨_, rfl⟩
  rw [← hPL] at hrg hps HTB
  clear K3 hPL c0
  have c0 := (HK0.out.cell 0).trans H0.out
  go_wp2_with (refine wpList_load_mid rfl 56 (.tmp 62) rfl g0 37 rfl PL _ hrg Tryd.underlying56 rfl hps ?_)
  refine HTB.out.mono ?_
  rintro e W4 ⟨v4, rfl, M4, hb4⟩
  have HS4 := Lib.hid (HS.out.later hb4)
  obtain ⟨s4, c4, rfl⟩ := M4.slice
  obtain ⟨l4, hl4⟩ : ∃ l4, l4 = (blkB m.bk).length := ⟨_, rfl⟩
  rw [← hl4] at M4 ⊢
  have hA4 : Below W4.heap.size W4 (W4.alloc (.cells #[.slice s4 l4 c4] 32)) := (Below.refl _ _).alloc (Nat.le_refl _) _
  have hbn : BsN (W4.alloc (.cells #[.slice s4 l4 c4] 32)) (fun k => k = g ∨ slb (.slice none 0 0) k) (.slice s4 l4 c4) (blkB m.bk) := by
   refine mine_bsn (M4.keep hA4) HBX.out (fun k hk _ => ?_)
   rintro (h | h)
   ·have := HS.out.G.lt; omega
   ·exact slb_none _ _ _ h
  have HC := raw_any g g (some ⟨W4.heap.size, 0, none⟩) 1 [blkB m.bk] [] (.slice none 0 0) (W4.alloc (.cells #[.slice s4 l4 c4] 32)) (HS4.out.G.alloc _) (HS4.out.M.keep hA4) (Nat.le_trans (Nat.le_of_lt HS4.out.G.lt) hA4.size) (by have := HBN.out; simp; omega) (by simp) (partsN_one hbn (Bk.new _ _ _) (new_s HS4.out.M HS4.out.G.lt))
  simp only [List.flatten_cons, List.flatten_nil, List.append_nil] at HC
  have HC := Lib.hid HC
  have HS := Lib.hid (HS4.out.later hA4)
  clear hA4 hbn M4 hb4 hrg hps z3 HTB hl4 HS4
  go_wp2_with fail
  refine HC.out.mono ?_
  rintro e W5 h
  obtain ⟨rfl, v5, HS⟩ := HS.out.call h
  have HS := Lib.hid HS
  clear h HC c0 z0
  have HS : Hid (Ws W g g (.slice none 0 0) W5 v5 (dataL m)) := by
   have h := HS.out
   show Ws _ _ _ _ _ _ _
   rw [data_7 HKD.out]
   simpa only [List.nil_append, List.append_assoc] using h
  have HD := Lib.hid (HMV.out _ _ _ HS.out)
  have HB := Lib.hid (bytes_any g g (dataL m) v5 W5 HS.out.G HS.out.M HDX.out (by have := HDL.out; omega))
  go_wp2_with fail
  refine HB.out.mono ?_
  rintro e w' ⟨v', rfl, M', B'⟩
  have MM := M'.mono HD.out.1.size
  have hw' := below_step HD.out.1 HD.out.1.size B'
  obtain ⟨s', c', rfl⟩ := M'.slice
  have MM := Lib.hid MM
  clear M' B'
  go_wp2_with fail
  go_ret
  exact ⟨_, rfl, MM.out, hw'⟩
 ·have c1 := (HK0.out.cell 1).trans H1.out
  have HA1 : Below W.heap.size W (W.alloc (.cells #[.int .u64 (m.nc : Int)] 22)) := (Below.refl _ _).alloc (Nat.le_refl _) _
  have HC := put_any g g W.heap.size 8 m.nc ([]) (.slice none 0 0) (W.alloc (.cells #[.int .u64 (m.nc : Int)] 22)) (HS.out.G.alloc _) (HS.out.M.keep HA1) (Nat.le_trans (Nat.le_of_lt HS.out.G.lt) HA1.size) (Bk.new _ _ _) (by simp)
  rw [show sz8 8 = 8 by decide] at HC
  have HC := Lib.hid HC
  have HS := Lib.hid (HS.out.later HA1)
  clear HA1
  go_wp2_with fail
  refine HC.out.mono ?_
  rintro e W2 h
  obtain ⟨rfl, v2, HS⟩ := HS.out.call h
  have HS := Lib.hid HS
  clear h HC
  clear c0 z0 c1
  have HS : Hid (Ws W g g (.slice none 0 0) W2 v2 (dataL m)) := by
   have h := HS.out
   show Ws _ _ _ _ _ _ _
   rw [data_9 HKD.out]
   simpa only [List.nil_append, List.append_assoc] using h
  have HD := Lib.hid (HMV.out _ _ _ HS.out)
  have HB := Lib.hid (bytes_any g g (dataL m) v2 W2 HS.out.G HS.out.M HDX.out (by have := HDL.out; omega))
  go_wp2_with fail
  refine HB.out.mono ?_
  rintro e w' ⟨v', rfl, M', B'⟩
  have MM := M'.mono HD.out.1.size
  have hw' := below_step HD.out.1 HD.out.1.size B'
  obtain ⟨s', c', rfl⟩ := M'.slice
  have MM := Lib.hid MM
  clear M' B'
  go_wp2_with fail
  go_ret
  exact ⟨_, rfl, MM.out, hw'⟩
 ·have c1 := (HK0.out.cell 1).trans H1.out
  have HA1 : Below W.heap.size W (W.alloc (.cells #[.int .u64 (m.nc : Int)] 22)) := (Below.refl _ _).alloc (Nat.le_refl _) _
  have HC := put_any g g W.heap.size 8 m.nc ([]) (.slice none 0 0) (W.alloc (.cells #[.int .u64 (m.nc : Int)] 22)) (HS.out.G.alloc _) (HS.out.M.keep HA1) (Nat.le_trans (Nat.le_of_lt HS.out.G.lt) HA1.size) (Bk.new _ _ _) (by simp)
  rw [show sz8 8 = 8 by decide] at HC
  have HC := Lib.hid HC
  have HS := Lib.hid (HS.out.later HA1)
  clear HA1
  go_wp2_with fail
  refine HC.out.mono ?_
  rintro e W2 h
  obtain ⟨rfl, v2, HS⟩ := HS.out.call h
  have HS := Lib.hid HS
  clear h HC
  clear c0 z0 c1
  have HS : Hid (Ws W g g (.slice none 0 0) W2 v2 (dataL m)) := by
   have h := HS.out
   show Ws _ _ _ _ _ _ _
   rw [data_10 HKD.out]
   simpa only [List.nil_append, List.append_assoc] using h
  have HD := Lib.hid (HMV.out _ _ _ HS.out)
  have HB := Lib.hid (bytes_any g g (dataL m) v2 W2 HS.out.G HS.out.M HDX.out (by have := HDL.out; omega))
  go_wp2_with fail
  refine HB.out.mono ?_
  rintro e w' ⟨v', rfl, M', B'⟩
  have MM := M'.mono HD.out.1.size
  have hw' := below_step HD.out.1 HD.out.1.size B'
  obtain ⟨s', c', rfl⟩ := M'.slice
  have MM := Lib.hid MM
  clear M' B'
  go_wp2_with fail
  go_ret
  exact ⟨_, rfl, MM.out, hw'⟩
 ·have hq := data_x HKD.out hx
  obtain ⟨x1, x3, x4, x5, x6, x8, x7, x9, x10⟩ := hx
  have d1 : (kd == 1) = false := by simpa using x1
  have d3 : (kd == 3) = false := by simpa using x3
  have d4 : (kd == 4) = false := by simpa using x4
  have d5 : (kd == 5) = false := by simpa using x5
  have d6 : (kd == 6) = false := by simpa using x6
  have d8 : (kd == 8) = false := by simpa using x8
  have d7 : (kd == 7) = false := by simpa using x7
  have d9 : (kd == 9) = false := by simpa using x9
  have d10 : (kd == 10) = false := by simpa using x10
  have HQ := Lib.hid hq
  clear hq x1 x3 x4 x5 x6 x8 x7 x9 x10
  have HS : Hid (Ws W g g (.slice none 0 0) W (.slice none 0 0) (dataL m)) := by
   have h := HS.out
   show Ws _ _ _ _ _ _ _
   rw [HQ.out]
   simpa only [List.nil_append, List.append_assoc] using h
  have HD := Lib.hid (HMV.out _ _ _ HS.out)
  have HB := Lib.hid (bytes_any g g (dataL m) (.slice none 0 0) W HS.out.G HS.out.M HDX.out (by have := HDL.out; omega))
  go_wp2_with fail
  refine HB.out.mono ?_
  rintro e w' ⟨v', rfl, M', B'⟩
  have MM := M'.mono HD.out.1.size
  have hw' := below_step HD.out.1 HD.out.1.size B'
  obtain ⟨s', c', rfl⟩ := M'.slice
  have MM := Lib.hid MM
  clear M' B'
  go_wp2_with fail
  go_ret
  exact ⟨_, rfl, MM.out, hw'⟩
end Go.Proofs.YtkpffjcdalclmaaDoor
namespace Go.Proofs.YtkpffjcdalclmaaDoor
open Go.RowKit
set_option linter.unusedVariables false
set_option linter.unusedSimpArgs false
set_option maxRecDepth 100000
def nmSts : Nat → St → St
 | 0, s => s
 | k + 1, s => (rdTake (nmSts k s) 32).2
def heSts : Nat → St → St
 | 0, s => s
 | k + 1, s => (rdTake (heSts k s) 80).2
theorem nmSts_inv (k : Nat) (s : St) (h : StI s) : StI (nmSts k s) := by
 induction k with
 | zero => exact h
 | succ k ih => exact (take_inv _ 32 ih).1
theorem heSts_inv (k : Nat) (s : St) (h : StI s) : StI (heSts k s) := by
 induction k with
 | zero => exact h
 | succ k ih => exact (take_inv _ 80 ih).1
theorem nmSts_shr (k : Nat) (s : St) : (nmSts k s).1.length ≤ s.1.length := by
 induction k with
 | zero => exact Nat.le_refl _
 | succ k ih => exact Nat.le_trans (take_shr _ _) ih
theorem heSts_shr (k : Nat) (s : St) : (heSts k s).1.length ≤ s.1.length := by
 induction k with
 | zero => exact Nat.le_refl _
 | succ k ih => exact Nat.le_trans (take_shr _ _) ih
def NmSay (s : St) (l : List I32) : Prop := ∀ (k : Nat) (x : I32), l[k]? = some x → x.1 = idOf (rdTake (nmSts k s) 32).1
def HeSay (s : St) (l : List HdI) : Prop := ∀ (k : Nat) (x : HdI), l[k]? = some x → x.1 = (if (rdTake (heSts k s) 80).1.length = 80 then hOf (rdTake (heSts k s) 80).1 else hd0)
theorem snoc_say {α : Type} {P : Nat → α → Prop} {l : List α} {x : α} (h : ∀ (k : Nat) (y : α), l[k]? = some y → P k y) (hx : P l.length x) : ∀ (k : Nat) (y : α), (l ++ [x])[k]? = some y → P k y := by
 intro k y hk
 rcases Nat.lt_or_ge k l.length with hlt | hge
 ·rw [List.getElem?_append_left hlt] at hk
  exact h k y hk
 ·rw [List.getElem?_append_right hge] at hk
  match hj : k - l.length, hk with
  | 0, hk =>
   obtain rfl : x = y := by simpa using hk
   rw [show k = l.length by omega]
   exact hx
theorem wpList_bsR1 {α : Type} {R : RowT α} (h : R.Ok) (hk : R.k ≤ 1000) {ops : Array Oper} {rest : List Oper} {o : Oper} {a : Act} {w : World} {Q : Exit → Act → World → Prop} (hg : o.guard = none) (k : Operand) (ho : o.op = .buildSlice R.t 1 #[(0, k)])
  (x : α) (hev : a.eval k = .agg (R.c x).toArray) (hK : wpList Tryd.prog ops Q rest (a.put o.dst (.slice (some ⟨w.heap.size, 0, none⟩) 1 1)) (w.alloc (.cells (R.c x).toArray R.e))) : wpList Tryd.prog ops Q (o :: rest) a w :=
 wpList_plain hg fun K hh => by
  have s := step_bsR1 (Q := Q) (E := True) (ops := ops) h hk hg k ho x hev (K := K) (by rw [flat_sing]; exact hh _ _ hK)
  have hw : Region.wanted o (yielded ops a.tmps) = true := by simp [Region.wanted, hg]
  rw [if_pos hw] at s
  exact s
theorem ne_rd_id : (156 : Nat) ≠ idR.e := by decide
theorem ne_rd_hd : (156 : Nat) ≠ hdR.e := by decide
set_option maxHeartbeats 8000000 in
theorem nextnames_any (p most : Nat) (v : Value) (s : St) (w : World) (hR : RdS w p v s) (hI : StI s) (hm : most ≤ 100) :
  Calls Tryd.prog 79 #[.pointer (some ⟨p, 0, none⟩), .int .u64 (most : Int)] w fun r w' => ∃ (sn : Option Addr) (cn : Nat) (l : List I32), r = .returned (.slice sn l.length cn) ∧ MineR idR w' w.heap.size (.slice sn l.length cn) l ∧ l.length = (rdCount s most).1 ∧ NmSay (rdCount s most).2 l ∧ ∃ v', Took p v (nmSts (rdCount s most).1 (rdCount s most).2) w w' v' := by
 have HR := Lib.hid hR
 have HI := Lib.hid hI
 have hpw := hR.1.lt
 have HI1 := Lib.hid (count_inv s most hI)
 have HC1 := Lib.hid (rcount_any p most v s w hR hI.ok)
 have hN := rdCount_le s most
 have HSJ : Hid (∀ j, (nmSts j (rdCount s most).2).1.length ≤ s.1.length) := fun j => Nat.le_trans (nmSts_shr j _) (count_shr s most)
 obtain ⟨s1, hs1⟩ : ∃ s1, s1 = (rdCount s most).2 := ⟨_, rfl⟩
 obtain ⟨n, hn⟩ : ∃ n, n = (rdCount s most).1 := ⟨_, rfl⟩
 rw [← hs1, ← hn] at HC1 ⊢
 rw [← hs1] at HI1 HSJ
 rw [← hn] at hN
 have HID : Hid (∀ j W v1, RdS W p v1 (nmSts j s1) → Calls Tryd.prog 80 #[.pointer (some ⟨p, 0, none⟩)] W fun r w' => ∃ x : I32, x.1 = idOf (rdTake (nmSts j s1) 32).1 ∧ r = .returned (.agg (idR.c x).toArray) ∧ ∃ v', Took p v1 (nmSts (j + 1) s1) W w' v') := fun j W v1 h => (rid_any p v1 _ W h (nmSts_inv j s1 HI1.out).ok).mono (fun r w' h2 => by
  obtain ⟨e, h3⟩ := h2
  exact ⟨⟨idOf (rdTake (nmSts j s1) 32).1, idOf_ok (nmSts j s1) 32 (nmSts_inv j s1 HI1.out) (take32 _)⟩, rfl, e, h3⟩)
 have hn100 : n ≤ 100 := Nat.le_trans hN hm
 clear hR hI hs1 hn hN
 go_enter Tryd.func79, Tryd.ntmps79
 go_wp2_with fail
 refine HC1.out.mono ?_
 rintro e W1 ⟨rfl, v1, T1⟩
 have T1 := Lib.hid T1
 clear HC1
 go_wp2_with fail
 go_loopw [5, 9] (fun nv i wr => ∃ (j : Nat) (vj : Value) (si : Option Addr) (ci : Nat) (l : List I32), j ≤ n ∧ nv = .slice si j ci ∧ i = .int .u64 j ∧ Hid (Took p v (nmSts j s1) w wr vj) ∧ Hid (MineR idR wr w.heap.size (.slice si j ci) l ∧ l.length = j ∧ NmSay s1 l)) (fun _ i _ => n - (intOf i).toNat)
 case atStart => exact ⟨0, v1, none, 0, [], Nat.zero_le _, rfl, rfl, T1, .inl ⟨rfl, rfl⟩, rfl, (fun k x hk => by simp at hk)⟩
 case round =>
  obtain ⟨j, vj, si, ci, l, hj, rfl, rfl, HT, HX⟩ := hrel
  clear T1
  by_cases hlt : j < n
  ·have j1 : decide ((j : Int) < (n : Int)) = true := decide_eq_true (by omega)
   have HC := Lib.hid (HID.out j wr vj HT.out.1)
   have HLW : Hid (w.heap.size ≤ wr.heap.size) := HT.out.size
   go_wp2_with fail
   refine HC.out.mono ?_
   rintro e w6 ⟨x, hx, rfl, v6, T6⟩
   have hX6 : MineR idR w6 w.heap.size (.slice si j ci) l := HX.out.1.but' T6.2.1 HT.out.1.1 ne_rd_id
   have HZ6 : Hid (w.heap.size ≤ w6.heap.size) := Nat.le_trans HLW.out T6.size
   have T6 := Lib.hid (HT.out.trans T6)
   have B7 : Below w6.heap.size w6 (w6.alloc (.cells (idR.c x).toArray 50)) := (Below.refl _ _).alloc (Nat.le_refl _) _
   have R7 := one_rowR' idR_ok (Bk.new w6 50 (idR.c x).toArray)
   have X7 := hX6.keep B7
   obtain ⟨v8, W8, hr8, M8, B8, U8⟩ := appR idR_ok l [x] (.slice si j ci) (.slice (some ⟨w6.heap.size, 0, none⟩) 1 1) w.heap.size (w6.alloc (.cells (idR.c x).toArray 50)) X7 (Nat.le_trans HZ6.out B7.size) R7 (by have := HX.out.2.1; simp; omega)
   have hl8 : (l ++ [x]).length = j + 1 := by have := HX.out.2.1; simp; omega
   obtain ⟨s8, c8, hv8⟩ := M8.slice
   rw [hl8] at hv8
   subst hv8
   have HE : Hid (Took p v (nmSts (j + 1) s1) w W8 v6 ∧ MineR idR W8 w.heap.size (.slice s8 (j + 1) c8) (l ++ [x]) ∧ (l ++ [x]).length = j + 1 ∧ NmSay s1 (l ++ [x])) := by
    refine ⟨T6.out.far HR.out (HSJ.out (j + 1)) ((B7.mono HZ6.out).trans B8), M8, hl8, snoc_say (α := I32) (P := fun k x => x.1 = idOf (rdTake (nmSts k s1) 32).1) HX.out.2.2 (by rw [HX.out.2.1]; exact hx)⟩
   have hle : (idR.c x).length = 32 := idR_ok.len x
   have hfo : List.foldl (fun (cs : Array Value) (x : Value × Nat) => cs.setIfInBounds x.snd x.fst) #[.int .u8 0, .int .u8 0, .int .u8 0, .int .u8 0, .int .u8 0, .int .u8 0, .int .u8 0, .int .u8 0, .int .u8 0, .int .u8 0, .int .u8 0, .int .u8 0, .int .u8 0, .int .u8 0, .int .u8 0, .int .u8 0, .int .u8 0, .int .u8 0, .int .u8 0, .int .u8 0, .int .u8 0, .int .u8 0, .int .u8 0, .int .u8 0, .int .u8 0, .int .u8 0, .int .u8 0, .int .u8 0, .int .u8 0, .int .u8 0, .int .u8 0, .int .u8 0] (idR.c x).zipIdx = (idR.c x).toArray := fold_all _ _ (by rw [hle]; rfl)
   obtain ⟨IC, hIC⟩ : ∃ IC, IC = idR.c x := ⟨_, rfl⟩
   rw [← hIC] at hr8 hle hfo ⊢
   clear HX HT HC hX6 HZ6 T6 B7 R7 X7 M8 B8 U8 hl8 hx hIC HLW
   go_wp2_with (refine wpList_appR (v1 := .slice si j ci) (v2 := .slice (some ⟨w6.heap.size, 0, none⟩) 1 1) 48 rfl (.tmp 11) (.tmp 14) rfl rfl rfl rfl hr8 ?_)
   go_roundw
   case rel => exact ⟨j + 1, v6, s8, c8, l ++ [x], by omega, rfl, by go_num, HE.out.1, HE.out.2⟩
   case measure => simp [intOf]; omega
  ·obtain rfl : j = n := by omega
   have j1 : decide ((j : Int) < (j : Int)) = false := decide_eq_false (by omega)
   obtain ⟨hM, hl, hS⟩ := HX.out
   subst hl
   have HT := HT
   have HM := Lib.hid hM
   have HS := Lib.hid hS
   clear hlt HX hM hS
   go_wp2_with fail
   go_ret
   exact ⟨si, ci, l, rfl, HM.out, rfl, HS.out, vj, HT.out⟩
set_option maxHeartbeats 8000000 in
theorem nextheads_any (p : Nat) (v : Value) (s : St) (w : World) (hR : RdS w p v s) (hI : StI s) :
  Calls Tryd.prog 81 #[.pointer (some ⟨p, 0, none⟩)] w fun r w' => ∃ (sn : Option Addr) (cn : Nat) (l : List HdI), r = .returned (.slice sn l.length cn) ∧ MineR hdR w' w.heap.size (.slice sn l.length cn) l ∧ l.length = (rdCount s 32).1 ∧ HeSay (rdCount s 32).2 l ∧ ∃ v', Took p v (heSts (rdCount s 32).1 (rdCount s 32).2) w w' v' := by
 have HR := Lib.hid hR
 have HI := Lib.hid hI
 have hpw := hR.1.lt
 have HI1 := Lib.hid (count_inv s 32 hI)
 have HC1 := Lib.hid (rcount_any p 32 v s w hR hI.ok)
 have hN := rdCount_le s 32
 have HSJ : Hid (∀ j, (heSts j (rdCount s 32).2).1.length ≤ s.1.length) := fun j => Nat.le_trans (heSts_shr j _) (count_shr s 32)
 obtain ⟨s1, hs1⟩ : ∃ s1, s1 = (rdCount s 32).2 := ⟨_, rfl⟩
 obtain ⟨n, hn⟩ : ∃ n, n = (rdCount s 32).1 := ⟨_, rfl⟩
 rw [← hs1, ← hn] at HC1 ⊢
 rw [← hs1] at HI1 HSJ
 rw [← hn] at hN
 have HRW : Hid (∀ j W v1, RdS W p v1 (heSts j s1) → Calls Tryd.prog 89 #[.pointer (some ⟨p, 0, none⟩), .int .i64 80] W fun r w' => ∃ u, r = .returned u ∧ BsV w' w'.heap.size u (rdTake (heSts j s1) 80).1 ∧ ∃ v', Took p v1 (heSts (j + 1) s1) W w' v') := fun j W v1 h => (rraw_any p 80 v1 _ W h (heSts_inv j s1 HI1.out).ok).mono (fun r w' h2 => by
  obtain ⟨u, e, hM, h3⟩ := h2
  exact ⟨u, e, hM.bs (take_inv (heSts j s1) 80 (heSts_inv j s1 HI1.out)).2.1, h3⟩)
 have HHR : Hid (∀ j W u, BsV W W.heap.size u (rdTake (heSts j s1) 80).1 → Calls Tryd.prog 88 #[u] W fun e w' => ∃ (x : HdI) (c : Int), x.1 = (if (rdTake (heSts j s1) 80).1.length = 80 then hOf (rdTake (heSts j s1) 80).1 else hd0) ∧ e = .returned (.tuple #[.agg (hdR.c x).toArray, .int .i64 c]) ∧ Below W.heap.size W w') := fun j W u h => (hread_any u _ W h).mono (fun e w' h2 => by
  obtain ⟨c, e1, hb⟩ := h2
  exact ⟨⟨_, hd0_hOf _ (take_inv (heSts j s1) 80 (heSts_inv j s1 HI1.out)).2.1⟩, c, rfl, e1, hb⟩)
 have hn100 : n ≤ 100 := Nat.le_trans hN (by decide)
 clear hR hI hs1 hn hN
 go_enter Tryd.func81, Tryd.ntmps81
 go_wp2_with fail
 refine HC1.out.mono ?_
 rintro e W1 ⟨rfl, v1, T1⟩
 have T1 := Lib.hid T1
 clear HC1
 go_wp2_with fail
 go_loopw [3, 8] (fun nv i wr => ∃ (j : Nat) (vj : Value) (si : Option Addr) (ci : Nat) (l : List HdI), j ≤ n ∧ nv = .slice si j ci ∧ i = .int .u64 j ∧ Hid (Took p v (heSts j s1) w wr vj) ∧ Hid (MineR hdR wr w.heap.size (.slice si j ci) l ∧ l.length = j ∧ HeSay s1 l)) (fun _ i _ => n - (intOf i).toNat)
 case atStart => exact ⟨0, v1, none, 0, [], Nat.zero_le _, rfl, rfl, T1, .inl ⟨rfl, rfl⟩, rfl, (fun k x hk => by simp at hk)⟩
 case round =>
  obtain ⟨j, vj, si, ci, l, hj, rfl, rfl, HT, HX⟩ := hrel
  clear T1
  by_cases hlt : j < n
  ·have j1 : decide ((j : Int) < (n : Int)) = true := decide_eq_true (by omega)
   have HC := Lib.hid (HRW.out j wr vj HT.out.1)
   have HLW : Hid (w.heap.size ≤ wr.heap.size) := HT.out.size
   go_wp2_with fail
   refine HC.out.mono ?_
   rintro e w5 ⟨u5, rfl, hU, v5, T5⟩
   have HC5 := Lib.hid (HHR.out j w5 u5 hU)
   have hX5 : MineR hdR w5 w.heap.size (.slice si j ci) l := HX.out.1.but' T5.2.1 HT.out.1.1 ne_rd_hd
   have HX5 := Lib.hid hX5
   have HZ5 : Hid (w.heap.size ≤ w5.heap.size) := Nat.le_trans HLW.out T5.size
   have T5 := Lib.hid (HT.out.trans T5)
   clear HC HT hU hX5
   go_wp2_with fail
   refine HC5.out.mono ?_
   rintro e w6 ⟨x, c6, hx, rfl, hb6⟩
   have hX6 := HX5.out.keep hb6
   have HZ6 : Hid (w.heap.size ≤ w6.heap.size) := Nat.le_trans HZ5.out hb6.size
   obtain ⟨hst, K7, B7⟩ := hd_made x w6
   have hle : (hdL x.1).length = 68 := hdL_length x.2
   have X7 := hX6.keep B7
   have T7 := Lib.hid (T5.out.far HR.out (HSJ.out (j + 1)) (((hb6.mono HZ5.out).trans (B7.mono HZ6.out))))
   have HX7 := Lib.hid X7
   have HXX := Lib.hid hx
   change (storeCells ⟨w6.heap.size, 0, none⟩ (hdR.c x)).run Tryd.prog _ = .ok () ((w6.alloc _).setCells w6.heap.size 0 (hdR.c x)) at hst
   change Below w6.heap.size w6 ((w6.alloc _).setCells w6.heap.size 0 (hdR.c x)) at B7
   obtain ⟨IC, hIC⟩ : ∃ IC, IC = hdR.c x := ⟨_, rfl⟩
   have HIC := Lib.hid hIC
   change Bk ((w6.alloc _).setCells w6.heap.size 0 (hdR.c x)) w6.heap.size _ (hdR.c x).toArray at K7
   change Hid (Took p v (heSts (j + 1) s1) w ((w6.alloc _).setCells w6.heap.size 0 (hdR.c x)) v5) at T7
   change Hid (MineR hdR ((w6.alloc _).setCells w6.heap.size 0 (hdR.c x)) w.heap.size (.slice si j ci) l) at HX7
   change (hdR.c x).length = 68 at hle
   rw [← hIC] at hst K7 T7 HX7 hle B7 ⊢
   have HB7 := Lib.hid B7
   clear hX6 B7 X7 hb6 hx T5 HX5 hIC
   go_upto_region 5 with fail
   have HBW : Hid (w.heap.size ≤ ((w6.alloc (.cells Tryd.zeroCells53 53)).setCells w6.heap.size 0 IC).heap.size) := Nat.le_trans HZ6.out HB7.out.size
   refine wp_any (fun W => Took p v (heSts (j + 1) s1) w W v5 ∧ MineR hdR W w.heap.size (.slice si j ci) l ∧ Bk W w6.heap.size 53 IC.toArray ∧ w.heap.size ≤ W.heap.size) ⟨T7.out, HX7.out, K7, HBW.out⟩ ?_
   clear T7 HX7 K7 HBW HZ6 HZ5 hst HB7
   generalize w6.heap.size = g4 at *
   rintro W6 ⟨T6, X6, K6, hz6⟩
   have hrg := hd_range K6
   have z6 := K6.lt
   have hps : (Tryd.prog.info? 53).map (·.size) = some IC.length := by rw [hle]; exact hd_info
   have B7 : Below W6.heap.size W6 (W6.alloc (.cells IC.toArray 53)) := (Below.refl _ _).alloc (Nat.le_refl _) _
   have R7 : RowV hdR (W6.alloc (.cells IC.toArray 53)) (W6.alloc (.cells IC.toArray 53)).heap.size (.slice (some ⟨W6.heap.size, 0, none⟩) 1 1) [x] := one_rowR' hdR_ok (by rw [← HIC.out]; exact Bk.new W6 53 IC.toArray)
   obtain ⟨v8, W8, hr8, M8, B8, U8⟩ := appR hdR_ok l [x] (.slice si j ci) (.slice (some ⟨W6.heap.size, 0, none⟩) 1 1) w.heap.size (W6.alloc (.cells IC.toArray 53)) (X6.keep B7) (Nat.le_trans hz6 B7.size) R7 (by have := HX.out.2.1; simp; omega)
   have hl8 : (l ++ [x]).length = j + 1 := by have := HX.out.2.1; simp; omega
   obtain ⟨s8, c8, hv8⟩ := M8.slice
   rw [hl8] at hv8
   subst hv8
   have HE : Hid (Took p v (heSts (j + 1) s1) w W8 v5 ∧ MineR hdR W8 w.heap.size (.slice s8 (j + 1) c8) (l ++ [x]) ∧ (l ++ [x]).length = j + 1 ∧ HeSay s1 (l ++ [x])) := by
    refine ⟨T6.far HR.out (HSJ.out (j + 1)) ((B7.mono hz6).trans B8), M8, hl8, snoc_say (α := HdI) (P := fun k x => x.1 = (if (rdTake (heSts k s1) 80).1.length = 80 then hOf (rdTake (heSts k s1) 80).1 else hd0)) HX.out.2.2 (by rw [HX.out.2.1]; exact HXX.out)⟩
   clear HX T6 X6 B7 R7 M8 B8 U8 hl8 HXX hz6 K6
   go_wp2_with (first | (refine wpList_load_mid rfl 53 (.tmp 4) rfl g4 0 rfl IC _ hrg Tryd.underlying53 rfl hps ?_) | (refine wpList_bsR1 hdR_ok (by decide) rfl (.tmp 17) rfl x (by rw [← HIC.out]; rfl) ?_; rw [← HIC.out]; show wpList _ _ _ _ _ (W6.alloc (.cells IC.toArray 53))) | (refine wpList_appR (v1 := .slice si j ci) (v2 := .slice (some ⟨W6.heap.size, 0, none⟩) 1 1) 51 rfl (.tmp 16) (.tmp 18) rfl rfl rfl rfl hr8 ?_))
   go_roundw
   case rel => exact ⟨j + 1, v5, s8, c8, l ++ [x], by omega, rfl, by go_num, HE.out.1, HE.out.2⟩
   case measure => simp [intOf]; omega
  ·obtain rfl : j = n := by omega
   have j1 : decide ((j : Int) < (j : Int)) = false := decide_eq_false (by omega)
   obtain ⟨hM, hl, hS⟩ := HX.out
   subst hl
   have HM := Lib.hid hM
   have HS := Lib.hid hS
   clear hlt HX hM hS
   go_wp2_with fail
   go_ret
   exact ⟨si, ci, l, rfl, HM.out, rfl, HS.out, vj, HT.out⟩
end Go.Proofs.YtkpffjcdalclmaaDoor
namespace Go.Proofs.YtkpffjcdalclmaaDoor
open Go.RowKit
set_option linter.unusedVariables false
set_option linter.unusedSimpArgs false
set_option maxRecDepth 100000
def ms0 : MsM := ⟨0, 0, 0, none, 0, [], i0, none, 0, [], blk0⟩
abbrev MsI := {m : MsM // IsHd m.bk.hd}
def msR : RowT MsI := ⟨58, 27, 106, 208, fun m => msL m.1, ⟨ms0, hd0_is⟩⟩
theorem msr_facts : (Tryd.prog.info? 58).map (fun i => (i.zero.map (·.cells), i.size, i.bytes)) = some (some (msL ms0).toArray, 106, 208) := by kernel_rfl
theorem msr_info : ∃ i v, Tryd.prog.info? 58 = some i ∧ i.zero = some v ∧ i.size = 106 ∧ i.bytes = 208 ∧ v.cells = (msL ms0).toArray := by
 obtain ⟨i, hi, hs⟩ := Option.map_eq_some_iff.1 msr_facts
 simp only [Prod.mk.injEq, Option.map_eq_some_iff] at hs
 obtain ⟨⟨v, hv, hc⟩, h1, h2⟩ := hs
 exact ⟨i, v, hi, hv, h1, h2, hc⟩
theorem msR_ok : msR.Ok where
 ht := Tryd.underlying27
 info := msr_info
 len := fun m => msL_len m.2
 one := fun m => msL_one m.1
 pos := by decide
 bys := by decide
theorem msz : Tryd.zeroCells58 = (msL ms0).toArray := by kernel_rfl
theorem ms_set (m : MsM) (i : Nat) (v : Value) : (msL m).toArray.setIfInBounds i v = ((msL m).set i v).toArray := by simp
theorem ms_kd (m : MsM) (k : Int) : (msL m).toArray.setIfInBounds 0 (.int .i64 k) = (msL { m with kd := k }).toArray := by rw [ms_set]; rfl
theorem ms_nc (m : MsM) (k : Nat) : (msL m).toArray.setIfInBounds 1 (.int .u64 (k : Int)) = (msL { m with nc := k }).toArray := by rw [ms_set]; rfl
theorem ms_ht (m : MsM) (k : Nat) : (msL m).toArray.setIfInBounds 2 (.int .u32 (k : Int)) = (msL { m with ht := k }).toArray := by rw [ms_set]; rfl
theorem ms_nm (m : MsM) (s : Option Addr) (c : Nat) (l : List I32) : (msL m).toArray.setIfInBounds 3 (.slice s l.length c) = (msL { m with ns := s, cn := c, nm := l }).toArray := by rw [ms_set]; rfl
theorem ms_hd (m : MsM) (s : Option Addr) (c : Nat) (l : List HdI) : (msL m).toArray.setIfInBounds 36 (.slice s l.length c) = (msL { m with hs := s, ch := c, hd := l }).toArray := by
 rw [ms_set]
 congr 1
 unfold msL
 show _ :: _ :: _ :: _ :: List.set (m.st.1.map byteV ++ (m.hv :: blkL m.bk)) 32 _ = _
 rw [List.set_append_right _ _ (by rw [List.length_map, m.st.2.1]; exact Nat.le_refl _), List.length_map, m.st.2.1]
 rfl
theorem msL_hi (m : MsM) (j : Nat) : (msL m).toArray[36 + j]? = (m.hv :: blkL m.bk)[j]? := by
 rw [List.getElem?_toArray]
 unfold msL
 rw [show 36 + j = (32 + j) + 1 + 1 + 1 + 1 by omega]
 simp only [List.getElem?_cons_succ]
 rw [List.getElem?_append_right (by rw [List.length_map, m.st.2.1]; omega), List.length_map, m.st.2.1, show 32 + j - 32 = j by omega]
theorem msL_big (m : MsM) : 36 ≤ (msL m).toArray.size := by
 rw [List.size_toArray]
 unfold msL
 simp only [List.length_cons, List.length_append, List.length_map, m.st.2.1]
 omega
theorem ms_st (m : MsM) (q : I32) : ovr (msL m).toArray 4 (q.1.map byteV) = (msL { m with st := q }).toArray := by
 apply Array.ext_getElem?
 intro i
 have hbg := msL_big m
 rw [ovr_get, List.length_map, q.2.1]
 by_cases h : 4 ≤ i ∧ i < 36
 ·rw [if_pos ⟨h.1, h.2, by omega⟩]
  obtain ⟨j, rfl⟩ : ∃ j, i = 4 + j := ⟨i - 4, by omega⟩
  rw [show 4 + j - 4 = j by omega]
  have h2 := msL_st { m with st := q } j (by omega)
  rw [h2]
  exact by_get q j (by omega)
 ·rw [if_neg (by omega)]
  rcases (show i = 0 ∨ i = 1 ∨ i = 2 ∨ i = 3 ∨ 36 ≤ i by omega) with rfl | rfl | rfl | rfl | h2
  ·rfl
  ·rfl
  ·rfl
  ·rfl
  ·obtain ⟨j, rfl⟩ : ∃ j, i = 36 + j := ⟨i - 36, by omega⟩
   rw [msL_hi, msL_hi { m with st := q }]
   rfl
theorem msi_r : (Tryd.prog.info? 58).map (·.size) = some 106 := by kernel_rfl
theorem ms_ret {P : Func} {a : Act} {W : World} {g nm k : Nat} {A : Array Value} {v : Value} (hp : P.results = #[ResultVar.cell nm 58, ResultVar.tmp k]) (hd : a.defers = []) (hv : a.tmps.getD nm undef = .pointer (some ⟨g, 0, none⟩)) (hk : a.tmps.getD k undef = v) (hs : A.size = 106) (hR : Bk W g 58 A) {K : Ending → World → Prop} (hK : K (.returned (.tuple #[.agg A, v])) W) :
  bodyPost Tryd.prog P K Exit.ret a W := by
 have h1 := run_loadVar_row (P := Tryd.prog) W g 58 58 A (0, 0) _ hR Tryd.underlying58 rfl (by rw [hs]; exact msi_r)
 refine bodyPost_ret (v := .tuple #[.agg A, v]) ?_ hd hK
 rw [results_cell_tmp hp, hv, hk]
 show ((asAddr (.pointer (some ⟨g, 0, none⟩))).run Tryd.prog W).andThen _ = _
 simp only [asAddr, Sem.run_pure, Result.andThen_ok, h1]
def rdSt (k : Nat) (xs : List Nat) : St :=
 if k = 1 then (rdNum (rdNum (rdNum (xs, 0) 4).2 8).2 4).2
 else if k = 3 then (rdTake (nmSts (rdCount (xs, 0) 32).1 (rdCount (xs, 0) 32).2) 32).2
 else if k = 4 then heSts (rdCount (xs, 0) 32).1 (rdCount (xs, 0) 32).2
 else if k = 5 ∨ k = 6 ∨ k = 8 then nmSts (rdCount (xs, 0) 64).1 (rdCount (xs, 0) 64).2
 else if k = 9 ∨ k = 10 then (rdNum (xs, 0) 8).2
 else (xs, 0)
def rdSd (k : Nat) (xs : List Nat) : Nat := if k = 1 then (rdNum (xs, 0) 4).1 else 1
def rdC (k : Nat) (xs : List Nat) : Nat := if rdEnd (rdSt k xs) ≠ 0 then rdEnd (rdSt k xs) else if rdSd k xs ≠ 1 then 70 else 0
def RdRest (k : Nat) (m : MsM) : Prop := (k ≠ 1 → m.ht = 0) ∧ (k ≠ 1 ∧ k ≠ 9 ∧ k ≠ 10 → m.nc = 0) ∧ (k ≠ 3 → m.st.1 = zeros 32) ∧ (k ≠ 3 ∧ k ≠ 5 ∧ k ≠ 6 ∧ k ≠ 8 → m.nm.length = 0) ∧ (k ≠ 4 → m.hd.length = 0)
def RdSays (k : Nat) (xs : List Nat) (m : MsM) : Prop := m.kd = (k : Int) ∧
 (k = 1 → m.nc = (rdNum (rdNum (xs, 0) 4).2 8).1 ∧ m.ht = (rdNum (rdNum (rdNum (xs, 0) 4).2 8).2 4).1) ∧
 (k = 3 → (m.nm.length = (rdCount (xs, 0) 32).1 ∧ NmSay (rdCount (xs, 0) 32).2 m.nm) ∧ m.st.1 = idOf (rdTake (nmSts (rdCount (xs, 0) 32).1 (rdCount (xs, 0) 32).2) 32).1) ∧
 (k = 4 → m.hd.length = (rdCount (xs, 0) 32).1 ∧ HeSay (rdCount (xs, 0) 32).2 m.hd) ∧
 (k = 5 ∨ k = 6 ∨ k = 8 → m.nm.length = (rdCount (xs, 0) 64).1 ∧ NmSay (rdCount (xs, 0) 64).2 m.nm) ∧
 (k = 9 ∨ k = 10 → m.nc = (rdNum (xs, 0) 8).1) ∧ (m.bk = blk0 ∧ m.nm.length ≤ 64 ∧ m.hd.length ≤ 32 ∧ RdRest k m)
def MineMs (W : World) (lo : Nat) (m : MsM) : Prop := MsOk m ∧ MineR idR W lo m.nv m.nm ∧ MineR hdR W lo m.hv m.hd ∧ MineB W lo m.bk
theorem ne_ms_id : (58 : Nat) ≠ idR.e := by decide
theorem ne_ms_hd : (58 : Nat) ≠ hdR.e := by decide
theorem mine_none {W : World} {lo : Nat} : MineR idR W lo (.slice none 0 0) [] := .inl ⟨rfl, rfl⟩
theorem mine_nonh {W : World} {lo : Nat} : MineR hdR W lo (.slice none 0 0) [] := .inl ⟨rfl, rfl⟩
theorem mine_nonb {W : World} {lo : Nat} : MineB W lo blk0 := ⟨hd0_is, .inl ⟨rfl, rfl⟩, fun t ht => by cases ht⟩
theorem MineR.lower {α : Type} {R : RowT α} {W : World} {lo lo' : Nat} {v : Value} {L : List α} (h : MineR R W lo v L) (hl : lo' ≤ lo) : MineR R W lo' v L := by
 rcases h with h2 | ⟨T, cap, z, e, hc, hc2, hT, K⟩
 ·exact .inl h2
 ·exact .inr ⟨T, cap, z, e, hc, hc2, Nat.le_trans hl hT, K⟩
structure RdAt (w W : World) (p g4 g6 : Nat) (v : Value) (t : St) : Prop where
 rs : RdS W p v t
 bel : Below w.heap.size w W
 off : ∀ k, slb v k → k ≠ g4 ∧ k ≠ g6
theorem RdAt.took {w W W' : World} {p g4 g6 : Nat} {v v' : Value} {t t' : St} (h : RdAt w W p g4 g6 v t) (hp : w.heap.size ≤ p) (k : Took p v t' W W' v') : RdAt w W' p g4 g6 v' t' :=
 ⟨k.1, h.bel.trans (k.2.1.below h.bel.size (fun j hj => by have e : j = p := hj; rw [e]; exact hp)), fun j hj => h.off j (k.2.2 j hj)⟩
theorem RdAt.but6 {w W W' : World} {p g4 g6 : Nat} {v : Value} {t : St} (h : RdAt w W p g4 g6 v t) (hp : ¬ g6 = p) (hg : w.heap.size ≤ g6) (hb : But (fun k => k = g6) W W') : RdAt w W' p g4 g6 v t :=
 ⟨Rd.but h.rs hb (fun e => hp e.symm) (fun k hk => (h.off k hk).2), h.bel.trans (hb.below h.bel.size (fun j hj => by have e : j = g6 := hj; rw [e]; exact hg)), h.off⟩
theorem kinds9 (k : Nat) (h : 1 ≤ k ∧ k ≤ 10 ∧ k ≠ 7) : k = 1 ∨ k = 2 ∨ k = 3 ∨ k = 4 ∨ k = 5 ∨ k = 6 ∨ k = 8 ∨ k = 9 ∨ k = 10 := by omega
set_option maxHeartbeats 16000000 in
theorem mread_any (k : Nat) (hk : 1 ≤ k ∧ k ≤ 10 ∧ k ≠ 7) (s : Option Addr) (n c : Nat) (xs : List Nat) (w : World) (hb : BsV w w.heap.size (.slice s n c) xs) (hl : xs.length ≤ 900000) :
  Calls Tryd.prog 59 #[.int .i64 (k : Int), .slice s n c] w fun r w' => ∃ m, r = .returned (.tuple #[.agg (msL m).toArray, .int .i64 ((rdC k xs : Nat) : Int)]) ∧ Below w.heap.size w w' ∧ RdSays k xs m ∧ MineMs w' w.heap.size m := by
 have hx : ∀ x ∈ xs, x < 256 := by obtain ⟨_, _, _, _, _, h, _⟩ := hb; exact h
 have hI : StI (xs, 0) := ⟨by simp only; omega, by simp only; omega, hx, fun h => absurd rfl h⟩
 have HI := Lib.hid hI
 have HB := Lib.hid hb
 have HRD : Hid (∀ W, BsV W W.heap.size (.slice s n c) xs → Calls Tryd.prog 74 #[.slice s n c] W fun e w' => ∃ p v', e = .returned (.pointer (some ⟨p, 0, none⟩)) ∧ Rd w' p v' xs 0 ∧ Below W.heap.size W w' ∧ W.heap.size ≤ p ∧ ∀ k, slb v' k → W.heap.size ≤ k) := fun W h => read_any xs _ W h (by omega) hx
 obtain ⟨kd, hkd⟩ : ∃ kd : Int, kd = (k : Int) := ⟨_, rfl⟩
 rw [← hkd]
 have HKD := Lib.hid hkd
 have d7 : (kd == 7) = false := by simp; omega
 have HK := Lib.hid hk
 clear hb hl hx hI hkd hk
 have hZ : Hid ((msL ms0).toArray.size = 106) := msL_len hd0_is
 obtain ⟨ZC, hZC⟩ : ∃ Z, Z = Tryd.zeroCells58 := ⟨_, rfl⟩
 have HZE := Lib.hid hZC
 have HZC : Hid (ZC = (msL ms0).toArray) := hZC.trans msz
 go_enter Tryd.func59, Tryd.ntmps59
 go_upto_region 1 with fail
 rw [← hZC]
 refine wp_any (fun W => Below w.heap.size w W ∧ Bk W w.heap.size 58 ZC) ⟨(Below.refl _ _).alloc (Nat.le_refl _) _, Bk.new _ _ _⟩ ?_
 obtain ⟨g4, hg4⟩ : ∃ g4, g4 = w.heap.size := ⟨_, rfl⟩
 have HG4 := Lib.hid hg4
 rw [← hg4]
 clear hg4
 rintro W0 ⟨hW0, K4⟩
 have HW0 : Hid (Below w.heap.size w W0) := by rw [← HG4.out]; exact hW0
 obtain ⟨m0, hm0⟩ : ∃ m0 : MsM, m0 = { ms0 with kd := kd } := ⟨_, rfl⟩
 have HM0 := Lib.hid hm0
 have hmi : IsHd m0.bk.hd := by rw [hm0]; exact hd0_is
 obtain ⟨hst, K6, B6⟩ := row_made msR_ok ⟨m0, hmi⟩ W0 ZC 58 (by rw [HZC.out]; exact hZ.out)
 change (storeCells ⟨W0.heap.size, 0, none⟩ (msL m0)).run Tryd.prog (W0.alloc (.cells ZC 58)) = .ok () ((W0.alloc (.cells ZC 58)).setCells W0.heap.size 0 (msL m0)) at hst
 change Bk ((W0.alloc (.cells ZC 58)).setCells W0.heap.size 0 (msL m0)) W0.heap.size 58 (msL m0).toArray at K6
 change Below W0.heap.size W0 ((W0.alloc (.cells ZC 58)).setCells W0.heap.size 0 (msL m0)) at B6
 have hbd : Tryd.zeroCells58.setIfInBounds 0 (.int .i64 kd) = (msL m0).toArray := by rw [msz, hm0]; exact ms_kd ms0 kd
 obtain ⟨PL, hPL⟩ : ∃ PL, PL = msL m0 := ⟨_, rfl⟩
 have HPL := Lib.hid hPL
 have hpl : PL.length = 106 := by rw [hPL]; exact msL_len hmi
 rw [← hPL] at hst K6 B6 hbd
 have hW1 := below_step HW0.out HW0.out.size B6
 have K41 := K4.keep B6
 have HX1 := Lib.hid (show Below w.heap.size w ((W0.alloc (.cells ZC 58)).setCells W0.heap.size 0 PL) ∧ Bk ((W0.alloc (.cells ZC 58)).setCells W0.heap.size 0 PL) g4 58 ZC from ⟨hW1, K41⟩)
 rw [HZE.out] at hst HX1 K6
 have hn46 : g4 ≠ W0.heap.size := by have := K4.lt; omega
 clear hm0 hPL K4 K41 B6 hW1 hW0
 go_upto_region 2 with fail
 rw [← HZE.out] at HX1 K6 ⊢
 refine wp_any (fun W => Below w.heap.size w W ∧ Bk W g4 58 ZC ∧ Bk W W0.heap.size 58 PL.toArray) ⟨HX1.out.1, HX1.out.2, K6⟩ ?_
 clear HX1 K6 hst hbd hpl
 have hg6 : w.heap.size ≤ W0.heap.size := HW0.out.size
 generalize W0.heap.size = g6 at *
 clear HW0 W0
 rintro W1 ⟨hW1, K4, K6⟩
 have K6 : Bk W1 g6 58 (msL m0).toArray := by rw [← HPL.out]; exact K6
 have hB1 := Lib.hid ((HB.out.keep hW1 (Nat.le_refl _)).mono hW1.size)
 have HC := Lib.hid (HRD.out W1 hB1.out)
 have HG6 := Lib.hid hg6
 have hz4 := K4.lt
 have hz6 := K6.lt
 clear HRD hB1 hg6 HPL
 go_wp2_with fail
 refine HC.out.mono ?_
 rintro e1 W2 ⟨p, v1, rfl, R1, B1, hp, hv1⟩
 have K4 := K4.keep B1
 have K6 := K6.keep B1
 have hn4 : ¬ g4 = p := by omega
 have hn6 : ¬ g6 = p := by omega
 have HP : Hid (w.heap.size ≤ p) := Nat.le_trans hW1.size hp
 have HA := Lib.hid (show RdAt w W2 p g4 g6 v1 (xs, 0) from ⟨R1, below_step hW1 hW1.size B1, fun k hk => by have := hv1 k hk; omega⟩)
 have HN46 := Lib.hid hn46
 have HL46 : Hid (w.heap.size ≤ g4) := by show _ ≤ _; rw [HG4.out]; exact Nat.le_refl _
 clear B1 hp hv1 R1 HC hW1 hz4 hz6
 have hks := kinds9 k HK.out
 rcases hks with hk | hk | hk | hk | hk | hk | hk | hk | hk
 ·subst hk
  have hkd : kd = 1 := HKD.out
  subst hkd
  have HI1 := Lib.hid (num_inv (xs, 0) 4 HI.out)
  have HI2 := Lib.hid (num_inv _ 8 HI1.out)
  have HL1 := Lib.hid (num8_lt _ HI1.out)
  have HL2 := Lib.hid (num4_lt _ HI2.out)
  have HC := Lib.hid (num_any p 4 v1 (xs, 0) W2 HA.out.rs HI.out.ok)
  obtain ⟨sd, hsd⟩ : ∃ sd, sd = (rdNum (xs, 0) 4).1 := ⟨_, rfl⟩
  rw [← hsd] at HC
  have HSD : Hid (sd = rdSd 1 xs) := hsd
  clear hsd
  go_wp2_with fail
  refine HC.out.mono ?_
  rintro e Wa ⟨rfl, va, T3⟩
  have K4 := T3.2.1.keep K4 hn4
  have K6 := T3.2.1.keep K6 hn6
  have HA := Lib.hid (HA.out.took HP.out T3)
  clear T3 HC
  have HC := Lib.hid (num_any p 8 va ((rdNum (xs, 0) 4).2) Wa HA.out.rs HI1.out.ok)
  obtain ⟨N, hN⟩ : ∃ N, N = (rdNum ((rdNum (xs, 0) 4).2) 8).1 := ⟨_, rfl⟩
  rw [← hN] at HC HL1
  have HN := Lib.hid hN
  clear hN
  go_wp2_with fail
  refine HC.out.mono ?_
  rintro e W3 ⟨rfl, v3, T3⟩
  have K4 := T3.2.1.keep K4 hn4
  have K6 := T3.2.1.keep K6 hn6
  have HA := Lib.hid (HA.out.took HP.out T3)
  have z6 := K6.lt
  have f6 := K6.frozen 1
  have c6 := K6.cell 1
  rw [show (msL m0).toArray[1]? = some (.int .u64 (m0.nc : Int)) from rfl] at c6
  have hbt := But.set_ (S := fun k => k = g6) (But.refl _ W3) (.inl rfl) 1 none (.int .u64 (N : Int))
  have HX := Lib.hid (show RdAt w (W3.setCell ⟨g6, 1, none⟩ (.int .u64 (N : Int))) p g4 g6 v3 ((rdNum (rdNum (xs, 0) 4).2 8).2) ∧ Bk (W3.setCell ⟨g6, 1, none⟩ (.int .u64 (N : Int))) g4 58 ZC ∧ Bk (W3.setCell ⟨g6, 1, none⟩ (.int .u64 (N : Int))) g6 58 (msL ({ m0 with nc := N })).toArray from ⟨HA.out.but6 hn6 HG6.out hbt, K4.far hn46 _, by rw [← ms_nc]; exact K6.set_ 1 _⟩)
  clear T3 HC K4 K6 HA hbt
  go_upto_region 12 with fail
  refine wp_any (fun W' => RdAt w W' p g4 g6 v3 ((rdNum (rdNum (xs, 0) 4).2 8).2) ∧ Bk W' g4 58 ZC ∧ Bk W' g6 58 (msL ({ m0 with nc := N })).toArray) HX.out ?_
  clear HX z6 f6 c6
  rintro Wb ⟨hA, K4, K6⟩
  have HA := Lib.hid hA
  clear hA
  have HC := Lib.hid (num_any p 4 v3 ((rdNum (rdNum (xs, 0) 4).2 8).2) Wb HA.out.rs HI2.out.ok)
  obtain ⟨H, hH⟩ : ∃ H, H = (rdNum ((rdNum (rdNum (xs, 0) 4).2 8).2) 4).1 := ⟨_, rfl⟩
  rw [← hH] at HC HL2
  have HH := Lib.hid hH
  have hwh : IntKind.u32.wrap (H : Int) = (H : Int) := by have := HL2.out; simp [IntKind.wrap, IntKind.signed, IntKind.bits]; omega
  clear hH
  go_wp2_with fail
  refine HC.out.mono ?_
  rintro e Wc ⟨rfl, vc, T3⟩
  have K4 := T3.2.1.keep K4 hn4
  have K6 := T3.2.1.keep K6 hn6
  have HA := Lib.hid (HA.out.took HP.out T3)
  have z6 := K6.lt
  have f6 := K6.frozen 2
  have c6 := K6.cell 2
  rw [show (msL { m0 with nc := N }).toArray[2]? = some (.int .u32 (m0.ht : Int)) from rfl] at c6
  have hbt := But.set_ (S := fun k => k = g6) (But.refl _ Wc) (.inl rfl) 2 none (.int .u32 (H : Int))
  have HX := Lib.hid (show RdAt w (Wc.setCell ⟨g6, 2, none⟩ (.int .u32 (H : Int))) p g4 g6 vc ((rdNum (rdNum (rdNum (xs, 0) 4).2 8).2 4).2) ∧ Bk (Wc.setCell ⟨g6, 2, none⟩ (.int .u32 (H : Int))) g4 58 ZC ∧ Bk (Wc.setCell ⟨g6, 2, none⟩ (.int .u32 (H : Int))) g6 58 (msL ({ m0 with nc := N, ht := H })).toArray from ⟨HA.out.but6 hn6 HG6.out hbt, K4.far hn46 _, by rw [← ms_ht { m0 with nc := N }]; exact K6.set_ 2 _⟩)
  clear T3 HC K4 K6 HA hbt
  go_upto_region 25 with fail
  refine wp_any (fun W' => RdAt w W' p g4 g6 vc ((rdNum (rdNum (rdNum (xs, 0) 4).2 8).2 4).2) ∧ Bk W' g4 58 ZC ∧ Bk W' g6 58 (msL ({ m0 with nc := N, ht := H })).toArray) HX.out ?_
  clear HX z6 f6 c6
  rintro W4 ⟨hA, K4, K6⟩
  have HA := Lib.hid hA
  clear hwh
  clear hA
  have HEN := Lib.hid (rend_any p vc ((rdNum (rdNum (rdNum (xs, 0) 4).2 8).2 4).2) W4 HA.out.rs)
  obtain ⟨e0, he0⟩ : ∃ e, e = rdEnd ((rdNum (rdNum (rdNum (xs, 0) 4).2 8).2 4).2) := ⟨_, rfl⟩
  rw [← he0] at HEN
  have HE0 := Lib.hid he0
  have HWE := Lib.hid HA.out.bel
  have HPC : Hid (∀ W', But (fun k => k = g4) W4 W' → MineMs W' w.heap.size ({ m0 with nc := N, ht := H })) := fun W' h => ⟨⟨by rw [HM0.out]; show -9223372036854775808 ≤ ((1 : Int)) ∧ ((1 : Int)) ≤ 9223372036854775807; decide, HL1.out, HL2.out, by rw [HM0.out]; exact hd0_is⟩, by rw [HM0.out]; exact mine_none, by rw [HM0.out]; exact mine_nonh, by rw [HM0.out]; exact mine_nonb⟩
  have HSY : Hid (RdSays 1 xs ({ m0 with nc := N, ht := H })) := by
   exact ⟨by rw [HM0.out]; rfl, fun _ => ⟨HN.out, HH.out⟩, fun h => by omega, fun h => by omega, fun h => by omega, fun h => by omega, ⟨by rw [HM0.out]; rfl, by rw [HM0.out]; exact Nat.zero_le _, by rw [HM0.out]; exact Nat.zero_le _, (by rw [HM0.out]; unfold RdRest; exact ⟨fun h => by first | rfl | exact absurd h (by decide), fun h => by first | rfl | exact absurd h (by decide), fun h => by first | rfl | exact absurd h (by decide), fun h => by first | rfl | exact absurd h (by decide), fun h => by first | rfl | exact absurd h (by decide)⟩)⟩⟩
  have HST : Hid (rdSt 1 xs = (rdNum (rdNum (rdNum (xs, 0) 4).2 8).2 4).2) := by show _ = _; rfl
  obtain ⟨mm, hmm⟩ : ∃ mm, mm = ({ m0 with nc := N, ht := H }) := ⟨_, rfl⟩
  have HMI : Hid (IsHd mm.bk.hd) := by rw [hmm]; exact ((HPC.out W4 (But.refl _ _)).1).2.2.2
  rw [← hmm] at HPC HSY K6
  have HK4 := Lib.hid K4
  have HSZ : Hid ((msL mm).toArray.size = 106) := msL_len HMI.out
  have HON : Hid ((msL mm).toArray.all (·.oneCell') = true) := all_oneCell_toArray (msL_one mm)
  have HZS : Hid (ZC.size = 106) := by show ZC.size = 106; rw [HZC.out]; exact hZ.out
  clear he0 hmm HA K4
  obtain ⟨MA, hMA⟩ : ∃ MA, MA = (msL mm).toArray := ⟨_, rfl⟩
  rw [← hMA] at K6 HSZ HON
  have HMA := Lib.hid hMA
  have HK6 := Lib.hid K6
  clear hMA K6
  go_wp2_with fail
  refine HEN.out.mono ?_
  rintro e1 W' ⟨rfl, rfl⟩
  clear HEN
  by_cases h0 : e0 = 0
  ·have hbe : (((e0 : Nat) : Int) != 0) = false := by rw [h0]; rfl
   have HZ := Lib.hid h0
   clear h0
   by_cases h1 : sd = 1
   ·have hbs : (((sd : Nat) : Int) != 1) = false := by rw [h1]; rfl
    have HS1 := Lib.hid h1
    clear h1
    have K6 := HK6.out
    go_wp2_with (first | (refine wpList_load_row rfl 58 (.tmp 6) rfl g6 rfl 58 MA (0, 0) _ K6 Tryd.underlying58 rfl (by rw [HSZ.out]; exact msi_r) ?_) | (refine wpList_store_mid rfl 58 (.tmp 4) (.tmp 72) rfl g4 0 MA rfl rfl (by rw [HSZ.out]; exact HK4.out.there 106 (by rw [HZS.out]; exact Nat.le_refl _)) (by rw [HSZ.out]; exact msi_r) HON.out ?_))
    exact ms_ret (g := g4) (A := MA) rfl rfl rfl rfl HSZ.out (HK4.out.setAll (HSZ.out.trans HZS.out.symm)) ⟨mm, (by rw [← HMA.out]; unfold rdC; rw [HST.out, ← HE0.out, HZ.out]; rw [if_neg (by simp), if_neg (by rw [← HSD.out, HS1.out]; simp)]; rfl), Below.setCells HL46.out _ _ _ HWE.out, HSY.out, HPC.out _ (But.setCells (S := fun k => k = g4) rfl _ _ _ (But.refl _ _))⟩
   ·have hbs : (((sd : Nat) : Int) != 1) = true := by simp; omega
    have HS1 := Lib.hid h1
    clear h1
    have K6 := HK6.out
    go_wp2_with (first | (refine wpList_load_row rfl 58 (.tmp 6) rfl g6 rfl 58 MA (0, 0) _ K6 Tryd.underlying58 rfl (by rw [HSZ.out]; exact msi_r) ?_) | (refine wpList_store_mid rfl 58 (.tmp 4) (.tmp 71) rfl g4 0 MA rfl rfl (by rw [HSZ.out]; exact HK4.out.there 106 (by rw [HZS.out]; exact Nat.le_refl _)) (by rw [HSZ.out]; exact msi_r) HON.out ?_))
    exact ms_ret (g := g4) (A := MA) rfl rfl rfl rfl HSZ.out (HK4.out.setAll (HSZ.out.trans HZS.out.symm)) ⟨mm, (by rw [← HMA.out]; unfold rdC; rw [HST.out, ← HE0.out, HZ.out]; rw [if_neg (by simp), if_pos (by rw [← HSD.out]; exact HS1.out)]; rfl), Below.setCells HL46.out _ _ _ HWE.out, HSY.out, HPC.out _ (But.setCells (S := fun k => k = g4) rfl _ _ _ (But.refl _ _))⟩
  ·have hbe : (((e0 : Nat) : Int) != 0) = true := by simp; omega
   have HZ := Lib.hid h0
   clear h0
   have K6 := HK6.out
   go_wp2_with (first | (refine wpList_load_row rfl 58 (.tmp 6) rfl g6 rfl 58 MA (0, 0) _ K6 Tryd.underlying58 rfl (by rw [HSZ.out]; exact msi_r) ?_) | (refine wpList_store_mid rfl 58 (.tmp 4) (.tmp 67) rfl g4 0 MA rfl rfl (by rw [HSZ.out]; exact HK4.out.there 106 (by rw [HZS.out]; exact Nat.le_refl _)) (by rw [HSZ.out]; exact msi_r) HON.out ?_))
   exact ms_ret (g := g4) (A := MA) rfl rfl rfl rfl HSZ.out (HK4.out.setAll (HSZ.out.trans HZS.out.symm)) ⟨mm, (by rw [← HMA.out]; unfold rdC; rw [HST.out, ← HE0.out]; rw [if_pos HZ.out]; rfl), Below.setCells HL46.out _ _ _ HWE.out, HSY.out, HPC.out _ (But.setCells (S := fun k => k = g4) rfl _ _ _ (But.refl _ _))⟩
 ·subst hk
  have hkd : kd = 2 := HKD.out
  subst hkd
  have HEN := Lib.hid (rend_any p v1 ((xs, 0)) W2 HA.out.rs)
  obtain ⟨e0, he0⟩ : ∃ e, e = rdEnd ((xs, 0)) := ⟨_, rfl⟩
  rw [← he0] at HEN
  have HE0 := Lib.hid he0
  have HWE := Lib.hid HA.out.bel
  have HPC : Hid (∀ W', But (fun k => k = g4) W2 W' → MineMs W' w.heap.size (m0)) := fun W' h => ⟨⟨by rw [HM0.out]; show -9223372036854775808 ≤ ((2 : Int)) ∧ ((2 : Int)) ≤ 9223372036854775807; decide, (by rw [HM0.out]; show 0 < 18446744073709551616; decide), (by rw [HM0.out]; show 0 < 4294967296; decide), by rw [HM0.out]; exact hd0_is⟩, by rw [HM0.out]; exact mine_none, by rw [HM0.out]; exact mine_nonh, by rw [HM0.out]; exact mine_nonb⟩
  have HSY : Hid (RdSays 2 xs (m0)) := by
   exact ⟨by rw [HM0.out]; rfl, fun h => by omega, fun h => by omega, fun h => by omega, fun h => by omega, fun h => by omega, ⟨by rw [HM0.out]; rfl, by rw [HM0.out]; exact Nat.zero_le _, by rw [HM0.out]; exact Nat.zero_le _, (by rw [HM0.out]; unfold RdRest; exact ⟨fun h => by first | rfl | exact absurd h (by decide), fun h => by first | rfl | exact absurd h (by decide), fun h => by first | rfl | exact absurd h (by decide), fun h => by first | rfl | exact absurd h (by decide), fun h => by first | rfl | exact absurd h (by decide)⟩)⟩⟩
  have HST : Hid (rdSt 2 xs = (xs, 0)) := by show _ = _; rfl
  obtain ⟨mm, hmm⟩ : ∃ mm, mm = (m0) := ⟨_, rfl⟩
  have HMI : Hid (IsHd mm.bk.hd) := by rw [hmm]; exact ((HPC.out W2 (But.refl _ _)).1).2.2.2
  rw [← hmm] at HPC HSY K6
  have HK4 := Lib.hid K4
  have HSZ : Hid ((msL mm).toArray.size = 106) := msL_len HMI.out
  have HON : Hid ((msL mm).toArray.all (·.oneCell') = true) := all_oneCell_toArray (msL_one mm)
  have HZS : Hid (ZC.size = 106) := by show ZC.size = 106; rw [HZC.out]; exact hZ.out
  clear he0 hmm HA K4
  obtain ⟨MA, hMA⟩ : ∃ MA, MA = (msL mm).toArray := ⟨_, rfl⟩
  rw [← hMA] at K6 HSZ HON
  have HMA := Lib.hid hMA
  have HK6 := Lib.hid K6
  clear hMA K6
  go_wp2_with fail
  refine HEN.out.mono ?_
  rintro e1 W' ⟨rfl, rfl⟩
  clear HEN
  by_cases h0 : e0 = 0
  ·have hbe : (((e0 : Nat) : Int) != 0) = false := by rw [h0]; rfl
   have HZ := Lib.hid h0
   clear h0
   have K6 := HK6.out
   go_wp2_with (first | (refine wpList_load_row rfl 58 (.tmp 6) rfl g6 rfl 58 MA (0, 0) _ K6 Tryd.underlying58 rfl (by rw [HSZ.out]; exact msi_r) ?_) | (refine wpList_store_mid rfl 58 (.tmp 4) (.tmp 72) rfl g4 0 MA rfl rfl (by rw [HSZ.out]; exact HK4.out.there 106 (by rw [HZS.out]; exact Nat.le_refl _)) (by rw [HSZ.out]; exact msi_r) HON.out ?_))
   exact ms_ret (g := g4) (A := MA) rfl rfl rfl rfl HSZ.out (HK4.out.setAll (HSZ.out.trans HZS.out.symm)) ⟨mm, (by rw [← HMA.out]; unfold rdC; rw [HST.out, ← HE0.out, HZ.out]; rw [if_neg (by simp), if_neg (by unfold rdSd; rw [if_neg (by omega)]; simp)]; rfl), Below.setCells HL46.out _ _ _ HWE.out, HSY.out, HPC.out _ (But.setCells (S := fun k => k = g4) rfl _ _ _ (But.refl _ _))⟩
  ·have hbe : (((e0 : Nat) : Int) != 0) = true := by simp; omega
   have HZ := Lib.hid h0
   clear h0
   have K6 := HK6.out
   go_wp2_with (first | (refine wpList_load_row rfl 58 (.tmp 6) rfl g6 rfl 58 MA (0, 0) _ K6 Tryd.underlying58 rfl (by rw [HSZ.out]; exact msi_r) ?_) | (refine wpList_store_mid rfl 58 (.tmp 4) (.tmp 67) rfl g4 0 MA rfl rfl (by rw [HSZ.out]; exact HK4.out.there 106 (by rw [HZS.out]; exact Nat.le_refl _)) (by rw [HSZ.out]; exact msi_r) HON.out ?_))
   exact ms_ret (g := g4) (A := MA) rfl rfl rfl rfl HSZ.out (HK4.out.setAll (HSZ.out.trans HZS.out.symm)) ⟨mm, (by rw [← HMA.out]; unfold rdC; rw [HST.out, ← HE0.out]; rw [if_pos HZ.out]; rfl), Below.setCells HL46.out _ _ _ HWE.out, HSY.out, HPC.out _ (But.setCells (S := fun k => k = g4) rfl _ _ _ (But.refl _ _))⟩
 ·subst hk
  have hkd : kd = 3 := HKD.out
  subst hkd
  have HC := Lib.hid (nextnames_any p 32 v1 (xs, 0) W2 HA.out.rs HI.out (by decide))
  have HLE := Lib.hid (rdCount_le (xs, 0) 32)
  have hsz2 : w.heap.size ≤ W2.heap.size := HA.out.bel.size
  have HZ2 := Lib.hid hsz2
  clear hsz2
  go_wp2_with fail
  refine HC.out.mono ?_
  rintro e W3 ⟨sn, cn, l, rfl, hM, hlen, hsay, v3, T3⟩
  have HLS := Lib.hid (show (l.length = (rdCount (xs, 0) 32).1 ∧ NmSay (rdCount (xs, 0) 32).2 l) from ⟨hlen, hsay⟩)
  have hM := hM.lower HZ2.out
  clear hlen hsay
  have K4 := T3.2.1.keep K4 hn4
  have K6 := T3.2.1.keep K6 hn6
  have HA := Lib.hid (HA.out.took HP.out T3)
  have z6 := K6.lt
  have f6 := K6.frozen 3
  have c6 := K6.cell 3
  rw [show (msL m0).toArray[3]? = some (m0.nv) from rfl] at c6
  have hbt := But.set_ (S := fun k => k = g6) (But.refl _ W3) (.inl rfl) 3 none (.slice sn l.length cn)
  have HX := Lib.hid (show RdAt w (W3.setCell ⟨g6, 3, none⟩ (.slice sn l.length cn)) p g4 g6 v3 (nmSts (rdCount (xs, 0) 32).1 (rdCount (xs, 0) 32).2) ∧ Bk (W3.setCell ⟨g6, 3, none⟩ (.slice sn l.length cn)) g4 58 ZC ∧ Bk (W3.setCell ⟨g6, 3, none⟩ (.slice sn l.length cn)) g6 58 (msL ({ m0 with ns := sn, cn := cn, nm := l })).toArray ∧ MineR idR (W3.setCell ⟨g6, 3, none⟩ (.slice sn l.length cn)) w.heap.size (.slice sn l.length cn) l from ⟨HA.out.but6 hn6 HG6.out hbt, K4.far hn46 _, by rw [← ms_nm]; exact K6.set_ 3 _, hM.but' hbt K6 ne_ms_id⟩)
  clear T3 HC K4 K6 HA hbt hM
  go_upto_region 15 with fail
  refine wp_any (fun W' => RdAt w W' p g4 g6 v3 (nmSts (rdCount (xs, 0) 32).1 (rdCount (xs, 0) 32).2) ∧ Bk W' g4 58 ZC ∧ Bk W' g6 58 (msL ({ m0 with ns := sn, cn := cn, nm := l })).toArray ∧ MineR idR W' w.heap.size (.slice sn l.length cn) l) HX.out ?_
  clear HX z6 f6 c6
  rintro W4 ⟨hA, K4, K6, hM⟩
  have HA := Lib.hid hA
  have HM := Lib.hid hM
  clear hM
  clear hA
  have hI3 := Lib.hid (nmSts_inv (rdCount (xs, 0) 32).1 _ (count_inv (xs, 0) 32 HI.out))
  have HC := Lib.hid (rid_any p v3 (nmSts (rdCount (xs, 0) 32).1 (rdCount (xs, 0) 32).2) W4 HA.out.rs hI3.out.ok)
  obtain ⟨q, hq⟩ : ∃ q : I32, q.1 = idOf (rdTake (nmSts (rdCount (xs, 0) 32).1 (rdCount (xs, 0) 32).2) 32).1 := ⟨⟨_, idOf_ok _ 32 hI3.out (take32 _)⟩, rfl⟩
  rw [← hq] at HC
  change Hid (Calls _ _ _ _ fun r w' => r = .returned (.agg (q.1.map byteV).toArray) ∧ ∃ v', Took p v3 _ W4 w' v') at HC
  have HQ := Lib.hid hq
  have hq32 : (q.1.map byteV).length = 32 := by rw [List.length_map, q.2.1]
  have HQN := Lib.hid hq32
  clear hq hq32
  go_wp2_with fail
  refine HC.out.mono ?_
  rintro e W5 ⟨rfl, v5, T5⟩
  have hM5 := HM.out.but' T5.2.1 HA.out.rs.1 ne_rd_id
  have K4 := T5.2.1.keep K4 hn4
  have K6 := T5.2.1.keep K6 hn6
  have HA := Lib.hid (HA.out.took HP.out T5)
  clear T5 HC HM
  have HMI6 : Hid (IsHd m0.bk.hd) := hmi
  have HS6 : Hid ((msL { m0 with ns := sn, cn := cn, nm := l }).toArray.size = 106) := msL_len HMI6.out
  go_upto_region 25 with (refine wpList_store_mid rfl 50 (.tmp 44) (.tmp 43) rfl g6 4 (q.1.map byteV).toArray rfl rfl (by rw [List.size_toArray, HQN.out]; exact there_at K6 4 32 (by rw [HS6.out]; decide)) (by rw [List.size_toArray, HQN.out]; exact id_infoW) (all_oneCell_toArray (by_ones _)) ?_)
  have hbt : But (fun k => k = g6) W5 (W5.setCells g6 4 (q.1.map byteV).toArray.toList) := But.setCells (S := fun k => k = g6) rfl _ _ _ (But.refl _ _)
  refine wp_any (fun W' => RdAt w W' p g4 g6 v5 (rdTake (nmSts (rdCount (xs, 0) 32).1 (rdCount (xs, 0) 32).2) 32).2 ∧ Bk W' g4 58 ZC ∧ Bk W' g6 58 (msL { m0 with ns := sn, cn := cn, nm := l, st := q }).toArray ∧ MineR idR W' w.heap.size (.slice sn l.length cn) l) ⟨HA.out.but6 hn6 HG6.out hbt, rowFar K4 hn46 _ _, by
   have h := Bk.ovr_ (w := W5) (q.1.map byteV) 4 W5 _ K6
   rw [ms_st] at h
   exact h, hM5.but' hbt K6 ne_ms_id⟩ ?_
  clear HA K4 K6 hM5 hbt
  rintro W6 ⟨hA, K4, K6, hM⟩
  have HA := Lib.hid hA
  have HM := Lib.hid hM
  clear hA hM
  have HEN := Lib.hid (rend_any p v5 ((rdTake (nmSts (rdCount (xs, 0) 32).1 (rdCount (xs, 0) 32).2) 32).2) W6 HA.out.rs)
  obtain ⟨e0, he0⟩ : ∃ e, e = rdEnd ((rdTake (nmSts (rdCount (xs, 0) 32).1 (rdCount (xs, 0) 32).2) 32).2) := ⟨_, rfl⟩
  rw [← he0] at HEN
  have HE0 := Lib.hid he0
  have HWE := Lib.hid HA.out.bel
  have HPC : Hid (∀ W', But (fun k => k = g4) W6 W' → MineMs W' w.heap.size ({ m0 with ns := sn, cn := cn, nm := l, st := q })) := fun W' h => ⟨⟨by rw [HM0.out]; show -9223372036854775808 ≤ ((3 : Int)) ∧ ((3 : Int)) ≤ 9223372036854775807; decide, (by rw [HM0.out]; show 0 < 18446744073709551616; decide), (by rw [HM0.out]; show 0 < 4294967296; decide), by rw [HM0.out]; exact hd0_is⟩, HM.out.but' h K4 ne_ms_id, by rw [HM0.out]; exact mine_nonh, by rw [HM0.out]; exact mine_nonb⟩
  have HSY : Hid (RdSays 3 xs ({ m0 with ns := sn, cn := cn, nm := l, st := q })) := by
   exact ⟨by rw [HM0.out]; rfl, fun h => by omega, fun _ => ⟨HLS.out, HQ.out⟩, fun h => by omega, fun h => by omega, fun h => by omega, ⟨by rw [HM0.out]; rfl, by rw [HLS.out.1]; exact Nat.le_trans HLE.out (by decide), by rw [HM0.out]; exact Nat.zero_le _, (by rw [HM0.out]; unfold RdRest; exact ⟨fun h => by first | rfl | exact absurd h (by decide), fun h => by first | rfl | exact absurd h (by decide), fun h => by first | rfl | exact absurd h (by decide), fun h => by first | rfl | exact absurd h (by decide), fun h => by first | rfl | exact absurd h (by decide)⟩)⟩⟩
  have HST : Hid (rdSt 3 xs = (rdTake (nmSts (rdCount (xs, 0) 32).1 (rdCount (xs, 0) 32).2) 32).2) := by show _ = _; rfl
  obtain ⟨mm, hmm⟩ : ∃ mm, mm = ({ m0 with ns := sn, cn := cn, nm := l, st := q }) := ⟨_, rfl⟩
  have HMI : Hid (IsHd mm.bk.hd) := by rw [hmm]; exact ((HPC.out W6 (But.refl _ _)).1).2.2.2
  rw [← hmm] at HPC HSY K6
  have HK4 := Lib.hid K4
  have HSZ : Hid ((msL mm).toArray.size = 106) := msL_len HMI.out
  have HON : Hid ((msL mm).toArray.all (·.oneCell') = true) := all_oneCell_toArray (msL_one mm)
  have HZS : Hid (ZC.size = 106) := by show ZC.size = 106; rw [HZC.out]; exact hZ.out
  clear he0 hmm HA K4
  obtain ⟨MA, hMA⟩ : ∃ MA, MA = (msL mm).toArray := ⟨_, rfl⟩
  rw [← hMA] at K6 HSZ HON
  have HMA := Lib.hid hMA
  have HK6 := Lib.hid K6
  clear hMA K6
  go_wp2_with fail
  refine HEN.out.mono ?_
  rintro e1 W' ⟨rfl, rfl⟩
  clear HEN
  by_cases h0 : e0 = 0
  ·have hbe : (((e0 : Nat) : Int) != 0) = false := by rw [h0]; rfl
   have HZ := Lib.hid h0
   clear h0
   have K6 := HK6.out
   go_wp2_with (first | (refine wpList_load_row rfl 58 (.tmp 6) rfl g6 rfl 58 MA (0, 0) _ K6 Tryd.underlying58 rfl (by rw [HSZ.out]; exact msi_r) ?_) | (refine wpList_store_mid rfl 58 (.tmp 4) (.tmp 72) rfl g4 0 MA rfl rfl (by rw [HSZ.out]; exact HK4.out.there 106 (by rw [HZS.out]; exact Nat.le_refl _)) (by rw [HSZ.out]; exact msi_r) HON.out ?_))
   exact ms_ret (g := g4) (A := MA) rfl rfl rfl rfl HSZ.out (HK4.out.setAll (HSZ.out.trans HZS.out.symm)) ⟨mm, (by rw [← HMA.out]; unfold rdC; rw [HST.out, ← HE0.out, HZ.out]; rw [if_neg (by simp), if_neg (by unfold rdSd; rw [if_neg (by omega)]; simp)]; rfl), Below.setCells HL46.out _ _ _ HWE.out, HSY.out, HPC.out _ (But.setCells (S := fun k => k = g4) rfl _ _ _ (But.refl _ _))⟩
  ·have hbe : (((e0 : Nat) : Int) != 0) = true := by simp; omega
   have HZ := Lib.hid h0
   clear h0
   have K6 := HK6.out
   go_wp2_with (first | (refine wpList_load_row rfl 58 (.tmp 6) rfl g6 rfl 58 MA (0, 0) _ K6 Tryd.underlying58 rfl (by rw [HSZ.out]; exact msi_r) ?_) | (refine wpList_store_mid rfl 58 (.tmp 4) (.tmp 67) rfl g4 0 MA rfl rfl (by rw [HSZ.out]; exact HK4.out.there 106 (by rw [HZS.out]; exact Nat.le_refl _)) (by rw [HSZ.out]; exact msi_r) HON.out ?_))
   exact ms_ret (g := g4) (A := MA) rfl rfl rfl rfl HSZ.out (HK4.out.setAll (HSZ.out.trans HZS.out.symm)) ⟨mm, (by rw [← HMA.out]; unfold rdC; rw [HST.out, ← HE0.out]; rw [if_pos HZ.out]; rfl), Below.setCells HL46.out _ _ _ HWE.out, HSY.out, HPC.out _ (But.setCells (S := fun k => k = g4) rfl _ _ _ (But.refl _ _))⟩
 ·subst hk
  have hkd : kd = 4 := HKD.out
  subst hkd
  have HC := Lib.hid (nextheads_any p v1 (xs, 0) W2 HA.out.rs HI.out)
  have HLE := Lib.hid (rdCount_le (xs, 0) 32)
  have hsz2 : w.heap.size ≤ W2.heap.size := HA.out.bel.size
  have HZ2 := Lib.hid hsz2
  clear hsz2
  go_wp2_with fail
  refine HC.out.mono ?_
  rintro e W3 ⟨sn, cn, l, rfl, hM, hlen, hsay, v3, T3⟩
  have HLS := Lib.hid (show (l.length = (rdCount (xs, 0) 32).1 ∧ HeSay (rdCount (xs, 0) 32).2 l) from ⟨hlen, hsay⟩)
  have hM := hM.lower HZ2.out
  clear hlen hsay
  have K4 := T3.2.1.keep K4 hn4
  have K6 := T3.2.1.keep K6 hn6
  have HA := Lib.hid (HA.out.took HP.out T3)
  have z6 := K6.lt
  have f6 := K6.frozen 36
  have c6 := K6.cell 36
  rw [show (msL m0).toArray[36]? = some (m0.hv) from (msL_36 m0)] at c6
  have hbt := But.set_ (S := fun k => k = g6) (But.refl _ W3) (.inl rfl) 36 none (.slice sn l.length cn)
  have HX := Lib.hid (show RdAt w (W3.setCell ⟨g6, 36, none⟩ (.slice sn l.length cn)) p g4 g6 v3 (heSts (rdCount (xs, 0) 32).1 (rdCount (xs, 0) 32).2) ∧ Bk (W3.setCell ⟨g6, 36, none⟩ (.slice sn l.length cn)) g4 58 ZC ∧ Bk (W3.setCell ⟨g6, 36, none⟩ (.slice sn l.length cn)) g6 58 (msL ({ m0 with hs := sn, ch := cn, hd := l })).toArray ∧ MineR hdR (W3.setCell ⟨g6, 36, none⟩ (.slice sn l.length cn)) w.heap.size (.slice sn l.length cn) l from ⟨HA.out.but6 hn6 HG6.out hbt, K4.far hn46 _, by rw [← ms_hd]; exact K6.set_ 36 _, hM.but' hbt K6 ne_ms_hd⟩)
  clear T3 HC K4 K6 HA hbt hM
  go_upto_region 25 with fail
  refine wp_any (fun W' => RdAt w W' p g4 g6 v3 (heSts (rdCount (xs, 0) 32).1 (rdCount (xs, 0) 32).2) ∧ Bk W' g4 58 ZC ∧ Bk W' g6 58 (msL ({ m0 with hs := sn, ch := cn, hd := l })).toArray ∧ MineR hdR W' w.heap.size (.slice sn l.length cn) l) HX.out ?_
  clear HX z6 f6 c6
  rintro W4 ⟨hA, K4, K6, hM⟩
  have HA := Lib.hid hA
  have HM := Lib.hid hM
  clear hM
  clear hA
  have HEN := Lib.hid (rend_any p v3 (heSts (rdCount (xs, 0) 32).1 (rdCount (xs, 0) 32).2) W4 HA.out.rs)
  obtain ⟨e0, he0⟩ : ∃ e, e = rdEnd (heSts (rdCount (xs, 0) 32).1 (rdCount (xs, 0) 32).2) := ⟨_, rfl⟩
  rw [← he0] at HEN
  have HE0 := Lib.hid he0
  have HWE := Lib.hid HA.out.bel
  have HPC : Hid (∀ W', But (fun k => k = g4) W4 W' → MineMs W' w.heap.size ({ m0 with hs := sn, ch := cn, hd := l })) := fun W' h => ⟨⟨by rw [HM0.out]; show -9223372036854775808 ≤ ((4 : Int)) ∧ ((4 : Int)) ≤ 9223372036854775807; decide, (by rw [HM0.out]; show 0 < 18446744073709551616; decide), (by rw [HM0.out]; show 0 < 4294967296; decide), by rw [HM0.out]; exact hd0_is⟩, by rw [HM0.out]; exact mine_none, HM.out.but' h K4 ne_ms_hd, by rw [HM0.out]; exact mine_nonb⟩
  have HSY : Hid (RdSays 4 xs ({ m0 with hs := sn, ch := cn, hd := l })) := by
   exact ⟨by rw [HM0.out]; rfl, fun h => by omega, fun h => by omega, fun _ => HLS.out, fun h => by omega, fun h => by omega, ⟨by rw [HM0.out]; rfl, by rw [HM0.out]; exact Nat.zero_le _, by rw [HLS.out.1]; exact HLE.out, (by rw [HM0.out]; unfold RdRest; exact ⟨fun h => by first | rfl | exact absurd h (by decide), fun h => by first | rfl | exact absurd h (by decide), fun h => by first | rfl | exact absurd h (by decide), fun h => by first | rfl | exact absurd h (by decide), fun h => by first | rfl | exact absurd h (by decide)⟩)⟩⟩
  have HST : Hid (rdSt 4 xs = heSts (rdCount (xs, 0) 32).1 (rdCount (xs, 0) 32).2) := by show _ = _; rfl
  obtain ⟨mm, hmm⟩ : ∃ mm, mm = ({ m0 with hs := sn, ch := cn, hd := l }) := ⟨_, rfl⟩
  have HMI : Hid (IsHd mm.bk.hd) := by rw [hmm]; exact ((HPC.out W4 (But.refl _ _)).1).2.2.2
  rw [← hmm] at HPC HSY K6
  have HK4 := Lib.hid K4
  have HSZ : Hid ((msL mm).toArray.size = 106) := msL_len HMI.out
  have HON : Hid ((msL mm).toArray.all (·.oneCell') = true) := all_oneCell_toArray (msL_one mm)
  have HZS : Hid (ZC.size = 106) := by show ZC.size = 106; rw [HZC.out]; exact hZ.out
  clear he0 hmm HA K4
  obtain ⟨MA, hMA⟩ : ∃ MA, MA = (msL mm).toArray := ⟨_, rfl⟩
  rw [← hMA] at K6 HSZ HON
  have HMA := Lib.hid hMA
  have HK6 := Lib.hid K6
  clear hMA K6
  go_wp2_with fail
  refine HEN.out.mono ?_
  rintro e1 W' ⟨rfl, rfl⟩
  clear HEN
  by_cases h0 : e0 = 0
  ·have hbe : (((e0 : Nat) : Int) != 0) = false := by rw [h0]; rfl
   have HZ := Lib.hid h0
   clear h0
   have K6 := HK6.out
   go_wp2_with (first | (refine wpList_load_row rfl 58 (.tmp 6) rfl g6 rfl 58 MA (0, 0) _ K6 Tryd.underlying58 rfl (by rw [HSZ.out]; exact msi_r) ?_) | (refine wpList_store_mid rfl 58 (.tmp 4) (.tmp 72) rfl g4 0 MA rfl rfl (by rw [HSZ.out]; exact HK4.out.there 106 (by rw [HZS.out]; exact Nat.le_refl _)) (by rw [HSZ.out]; exact msi_r) HON.out ?_))
   exact ms_ret (g := g4) (A := MA) rfl rfl rfl rfl HSZ.out (HK4.out.setAll (HSZ.out.trans HZS.out.symm)) ⟨mm, (by rw [← HMA.out]; unfold rdC; rw [HST.out, ← HE0.out, HZ.out]; rw [if_neg (by simp), if_neg (by unfold rdSd; rw [if_neg (by omega)]; simp)]; rfl), Below.setCells HL46.out _ _ _ HWE.out, HSY.out, HPC.out _ (But.setCells (S := fun k => k = g4) rfl _ _ _ (But.refl _ _))⟩
  ·have hbe : (((e0 : Nat) : Int) != 0) = true := by simp; omega
   have HZ := Lib.hid h0
   clear h0
   have K6 := HK6.out
   go_wp2_with (first | (refine wpList_load_row rfl 58 (.tmp 6) rfl g6 rfl 58 MA (0, 0) _ K6 Tryd.underlying58 rfl (by rw [HSZ.out]; exact msi_r) ?_) | (refine wpList_store_mid rfl 58 (.tmp 4) (.tmp 67) rfl g4 0 MA rfl rfl (by rw [HSZ.out]; exact HK4.out.there 106 (by rw [HZS.out]; exact Nat.le_refl _)) (by rw [HSZ.out]; exact msi_r) HON.out ?_))
   exact ms_ret (g := g4) (A := MA) rfl rfl rfl rfl HSZ.out (HK4.out.setAll (HSZ.out.trans HZS.out.symm)) ⟨mm, (by rw [← HMA.out]; unfold rdC; rw [HST.out, ← HE0.out]; rw [if_pos HZ.out]; rfl), Below.setCells HL46.out _ _ _ HWE.out, HSY.out, HPC.out _ (But.setCells (S := fun k => k = g4) rfl _ _ _ (But.refl _ _))⟩
 ·subst hk
  have hkd : kd = 5 := HKD.out
  subst hkd
  have HC := Lib.hid (nextnames_any p 64 v1 (xs, 0) W2 HA.out.rs HI.out (by decide))
  have HLE := Lib.hid (rdCount_le (xs, 0) 64)
  have hsz2 : w.heap.size ≤ W2.heap.size := HA.out.bel.size
  have HZ2 := Lib.hid hsz2
  clear hsz2
  go_wp2_with fail
  refine HC.out.mono ?_
  rintro e W3 ⟨sn, cn, l, rfl, hM, hlen, hsay, v3, T3⟩
  have HLS := Lib.hid (show (l.length = (rdCount (xs, 0) 64).1 ∧ NmSay (rdCount (xs, 0) 64).2 l) from ⟨hlen, hsay⟩)
  have hM := hM.lower HZ2.out
  clear hlen hsay
  have K4 := T3.2.1.keep K4 hn4
  have K6 := T3.2.1.keep K6 hn6
  have HA := Lib.hid (HA.out.took HP.out T3)
  have z6 := K6.lt
  have f6 := K6.frozen 3
  have c6 := K6.cell 3
  rw [show (msL m0).toArray[3]? = some (m0.nv) from rfl] at c6
  have hbt := But.set_ (S := fun k => k = g6) (But.refl _ W3) (.inl rfl) 3 none (.slice sn l.length cn)
  have HX := Lib.hid (show RdAt w (W3.setCell ⟨g6, 3, none⟩ (.slice sn l.length cn)) p g4 g6 v3 (nmSts (rdCount (xs, 0) 64).1 (rdCount (xs, 0) 64).2) ∧ Bk (W3.setCell ⟨g6, 3, none⟩ (.slice sn l.length cn)) g4 58 ZC ∧ Bk (W3.setCell ⟨g6, 3, none⟩ (.slice sn l.length cn)) g6 58 (msL ({ m0 with ns := sn, cn := cn, nm := l })).toArray ∧ MineR idR (W3.setCell ⟨g6, 3, none⟩ (.slice sn l.length cn)) w.heap.size (.slice sn l.length cn) l from ⟨HA.out.but6 hn6 HG6.out hbt, K4.far hn46 _, by rw [← ms_nm]; exact K6.set_ 3 _, hM.but' hbt K6 ne_ms_id⟩)
  clear T3 HC K4 K6 HA hbt hM
  go_upto_region 25 with fail
  refine wp_any (fun W' => RdAt w W' p g4 g6 v3 (nmSts (rdCount (xs, 0) 64).1 (rdCount (xs, 0) 64).2) ∧ Bk W' g4 58 ZC ∧ Bk W' g6 58 (msL ({ m0 with ns := sn, cn := cn, nm := l })).toArray ∧ MineR idR W' w.heap.size (.slice sn l.length cn) l) HX.out ?_
  clear HX z6 f6 c6
  rintro W4 ⟨hA, K4, K6, hM⟩
  have HA := Lib.hid hA
  have HM := Lib.hid hM
  clear hM
  clear hA
  have HEN := Lib.hid (rend_any p v3 (nmSts (rdCount (xs, 0) 64).1 (rdCount (xs, 0) 64).2) W4 HA.out.rs)
  obtain ⟨e0, he0⟩ : ∃ e, e = rdEnd (nmSts (rdCount (xs, 0) 64).1 (rdCount (xs, 0) 64).2) := ⟨_, rfl⟩
  rw [← he0] at HEN
  have HE0 := Lib.hid he0
  have HWE := Lib.hid HA.out.bel
  have HPC : Hid (∀ W', But (fun k => k = g4) W4 W' → MineMs W' w.heap.size ({ m0 with ns := sn, cn := cn, nm := l })) := fun W' h => ⟨⟨by rw [HM0.out]; show -9223372036854775808 ≤ ((5 : Int)) ∧ ((5 : Int)) ≤ 9223372036854775807; decide, (by rw [HM0.out]; show 0 < 18446744073709551616; decide), (by rw [HM0.out]; show 0 < 4294967296; decide), by rw [HM0.out]; exact hd0_is⟩, HM.out.but' h K4 ne_ms_id, by rw [HM0.out]; exact mine_nonh, by rw [HM0.out]; exact mine_nonb⟩
  have HSY : Hid (RdSays 5 xs ({ m0 with ns := sn, cn := cn, nm := l })) := by
   exact ⟨by rw [HM0.out]; rfl, fun h => by omega, fun h => by omega, fun h => by omega, fun _ => HLS.out, fun h => by omega, ⟨by rw [HM0.out]; rfl, by rw [HLS.out.1]; exact HLE.out, by rw [HM0.out]; exact Nat.zero_le _, (by rw [HM0.out]; unfold RdRest; exact ⟨fun h => by first | rfl | exact absurd h (by decide), fun h => by first | rfl | exact absurd h (by decide), fun h => by first | rfl | exact absurd h (by decide), fun h => by first | rfl | exact absurd h (by decide), fun h => by first | rfl | exact absurd h (by decide)⟩)⟩⟩
  have HST : Hid (rdSt 5 xs = nmSts (rdCount (xs, 0) 64).1 (rdCount (xs, 0) 64).2) := by show _ = _; rfl
  obtain ⟨mm, hmm⟩ : ∃ mm, mm = ({ m0 with ns := sn, cn := cn, nm := l }) := ⟨_, rfl⟩
  have HMI : Hid (IsHd mm.bk.hd) := by rw [hmm]; exact ((HPC.out W4 (But.refl _ _)).1).2.2.2
  rw [← hmm] at HPC HSY K6
  have HK4 := Lib.hid K4
  have HSZ : Hid ((msL mm).toArray.size = 106) := msL_len HMI.out
  have HON : Hid ((msL mm).toArray.all (·.oneCell') = true) := all_oneCell_toArray (msL_one mm)
  have HZS : Hid (ZC.size = 106) := by show ZC.size = 106; rw [HZC.out]; exact hZ.out
  clear he0 hmm HA K4
  obtain ⟨MA, hMA⟩ : ∃ MA, MA = (msL mm).toArray := ⟨_, rfl⟩
  rw [← hMA] at K6 HSZ HON
  have HMA := Lib.hid hMA
  have HK6 := Lib.hid K6
  clear hMA K6
  go_wp2_with fail
  refine HEN.out.mono ?_
  rintro e1 W' ⟨rfl, rfl⟩
  clear HEN
  by_cases h0 : e0 = 0
  ·have hbe : (((e0 : Nat) : Int) != 0) = false := by rw [h0]; rfl
   have HZ := Lib.hid h0
   clear h0
   have K6 := HK6.out
   go_wp2_with (first | (refine wpList_load_row rfl 58 (.tmp 6) rfl g6 rfl 58 MA (0, 0) _ K6 Tryd.underlying58 rfl (by rw [HSZ.out]; exact msi_r) ?_) | (refine wpList_store_mid rfl 58 (.tmp 4) (.tmp 72) rfl g4 0 MA rfl rfl (by rw [HSZ.out]; exact HK4.out.there 106 (by rw [HZS.out]; exact Nat.le_refl _)) (by rw [HSZ.out]; exact msi_r) HON.out ?_))
   exact ms_ret (g := g4) (A := MA) rfl rfl rfl rfl HSZ.out (HK4.out.setAll (HSZ.out.trans HZS.out.symm)) ⟨mm, (by rw [← HMA.out]; unfold rdC; rw [HST.out, ← HE0.out, HZ.out]; rw [if_neg (by simp), if_neg (by unfold rdSd; rw [if_neg (by omega)]; simp)]; rfl), Below.setCells HL46.out _ _ _ HWE.out, HSY.out, HPC.out _ (But.setCells (S := fun k => k = g4) rfl _ _ _ (But.refl _ _))⟩
  ·have hbe : (((e0 : Nat) : Int) != 0) = true := by simp; omega
   have HZ := Lib.hid h0
   clear h0
   have K6 := HK6.out
   go_wp2_with (first | (refine wpList_load_row rfl 58 (.tmp 6) rfl g6 rfl 58 MA (0, 0) _ K6 Tryd.underlying58 rfl (by rw [HSZ.out]; exact msi_r) ?_) | (refine wpList_store_mid rfl 58 (.tmp 4) (.tmp 67) rfl g4 0 MA rfl rfl (by rw [HSZ.out]; exact HK4.out.there 106 (by rw [HZS.out]; exact Nat.le_refl _)) (by rw [HSZ.out]; exact msi_r) HON.out ?_))
   exact ms_ret (g := g4) (A := MA) rfl rfl rfl rfl HSZ.out (HK4.out.setAll (HSZ.out.trans HZS.out.symm)) ⟨mm, (by rw [← HMA.out]; unfold rdC; rw [HST.out, ← HE0.out]; rw [if_pos HZ.out]; rfl), Below.setCells HL46.out _ _ _ HWE.out, HSY.out, HPC.out _ (But.setCells (S := fun k => k = g4) rfl _ _ _ (But.refl _ _))⟩
 ·subst hk
  have hkd : kd = 6 := HKD.out
  subst hkd
  have HC := Lib.hid (nextnames_any p 64 v1 (xs, 0) W2 HA.out.rs HI.out (by decide))
  have HLE := Lib.hid (rdCount_le (xs, 0) 64)
  have hsz2 : w.heap.size ≤ W2.heap.size := HA.out.bel.size
  have HZ2 := Lib.hid hsz2
  clear hsz2
  go_wp2_with fail
  refine HC.out.mono ?_
  rintro e W3 ⟨sn, cn, l, rfl, hM, hlen, hsay, v3, T3⟩
  have HLS := Lib.hid (show (l.length = (rdCount (xs, 0) 64).1 ∧ NmSay (rdCount (xs, 0) 64).2 l) from ⟨hlen, hsay⟩)
  have hM := hM.lower HZ2.out
  clear hlen hsay
  have K4 := T3.2.1.keep K4 hn4
  have K6 := T3.2.1.keep K6 hn6
  have HA := Lib.hid (HA.out.took HP.out T3)
  have z6 := K6.lt
  have f6 := K6.frozen 3
  have c6 := K6.cell 3
  rw [show (msL m0).toArray[3]? = some (m0.nv) from rfl] at c6
  have hbt := But.set_ (S := fun k => k = g6) (But.refl _ W3) (.inl rfl) 3 none (.slice sn l.length cn)
  have HX := Lib.hid (show RdAt w (W3.setCell ⟨g6, 3, none⟩ (.slice sn l.length cn)) p g4 g6 v3 (nmSts (rdCount (xs, 0) 64).1 (rdCount (xs, 0) 64).2) ∧ Bk (W3.setCell ⟨g6, 3, none⟩ (.slice sn l.length cn)) g4 58 ZC ∧ Bk (W3.setCell ⟨g6, 3, none⟩ (.slice sn l.length cn)) g6 58 (msL ({ m0 with ns := sn, cn := cn, nm := l })).toArray ∧ MineR idR (W3.setCell ⟨g6, 3, none⟩ (.slice sn l.length cn)) w.heap.size (.slice sn l.length cn) l from ⟨HA.out.but6 hn6 HG6.out hbt, K4.far hn46 _, by rw [← ms_nm]; exact K6.set_ 3 _, hM.but' hbt K6 ne_ms_id⟩)
  clear T3 HC K4 K6 HA hbt hM
  go_upto_region 25 with fail
  refine wp_any (fun W' => RdAt w W' p g4 g6 v3 (nmSts (rdCount (xs, 0) 64).1 (rdCount (xs, 0) 64).2) ∧ Bk W' g4 58 ZC ∧ Bk W' g6 58 (msL ({ m0 with ns := sn, cn := cn, nm := l })).toArray ∧ MineR idR W' w.heap.size (.slice sn l.length cn) l) HX.out ?_
  clear HX z6 f6 c6
  rintro W4 ⟨hA, K4, K6, hM⟩
  have HA := Lib.hid hA
  have HM := Lib.hid hM
  clear hM
  clear hA
  have HEN := Lib.hid (rend_any p v3 (nmSts (rdCount (xs, 0) 64).1 (rdCount (xs, 0) 64).2) W4 HA.out.rs)
  obtain ⟨e0, he0⟩ : ∃ e, e = rdEnd (nmSts (rdCount (xs, 0) 64).1 (rdCount (xs, 0) 64).2) := ⟨_, rfl⟩
  rw [← he0] at HEN
  have HE0 := Lib.hid he0
  have HWE := Lib.hid HA.out.bel
  have HPC : Hid (∀ W', But (fun k => k = g4) W4 W' → MineMs W' w.heap.size ({ m0 with ns := sn, cn := cn, nm := l })) := fun W' h => ⟨⟨by rw [HM0.out]; show -9223372036854775808 ≤ ((6 : Int)) ∧ ((6 : Int)) ≤ 9223372036854775807; decide, (by rw [HM0.out]; show 0 < 18446744073709551616; decide), (by rw [HM0.out]; show 0 < 4294967296; decide), by rw [HM0.out]; exact hd0_is⟩, HM.out.but' h K4 ne_ms_id, by rw [HM0.out]; exact mine_nonh, by rw [HM0.out]; exact mine_nonb⟩
  have HSY : Hid (RdSays 6 xs ({ m0 with ns := sn, cn := cn, nm := l })) := by
   exact ⟨by rw [HM0.out]; rfl, fun h => by omega, fun h => by omega, fun h => by omega, fun _ => HLS.out, fun h => by omega, ⟨by rw [HM0.out]; rfl, by rw [HLS.out.1]; exact HLE.out, by rw [HM0.out]; exact Nat.zero_le _, (by rw [HM0.out]; unfold RdRest; exact ⟨fun h => by first | rfl | exact absurd h (by decide), fun h => by first | rfl | exact absurd h (by decide), fun h => by first | rfl | exact absurd h (by decide), fun h => by first | rfl | exact absurd h (by decide), fun h => by first | rfl | exact absurd h (by decide)⟩)⟩⟩
  have HST : Hid (rdSt 6 xs = nmSts (rdCount (xs, 0) 64).1 (rdCount (xs, 0) 64).2) := by show _ = _; rfl
  obtain ⟨mm, hmm⟩ : ∃ mm, mm = ({ m0 with ns := sn, cn := cn, nm := l }) := ⟨_, rfl⟩
  have HMI : Hid (IsHd mm.bk.hd) := by rw [hmm]; exact ((HPC.out W4 (But.refl _ _)).1).2.2.2
  rw [← hmm] at HPC HSY K6
  have HK4 := Lib.hid K4
  have HSZ : Hid ((msL mm).toArray.size = 106) := msL_len HMI.out
  have HON : Hid ((msL mm).toArray.all (·.oneCell') = true) := all_oneCell_toArray (msL_one mm)
  have HZS : Hid (ZC.size = 106) := by show ZC.size = 106; rw [HZC.out]; exact hZ.out
  clear he0 hmm HA K4
  obtain ⟨MA, hMA⟩ : ∃ MA, MA = (msL mm).toArray := ⟨_, rfl⟩
  rw [← hMA] at K6 HSZ HON
  have HMA := Lib.hid hMA
  have HK6 := Lib.hid K6
  clear hMA K6
  go_wp2_with fail
  refine HEN.out.mono ?_
  rintro e1 W' ⟨rfl, rfl⟩
  clear HEN
  by_cases h0 : e0 = 0
  ·have hbe : (((e0 : Nat) : Int) != 0) = false := by rw [h0]; rfl
   have HZ := Lib.hid h0
   clear h0
   have K6 := HK6.out
   go_wp2_with (first | (refine wpList_load_row rfl 58 (.tmp 6) rfl g6 rfl 58 MA (0, 0) _ K6 Tryd.underlying58 rfl (by rw [HSZ.out]; exact msi_r) ?_) | (refine wpList_store_mid rfl 58 (.tmp 4) (.tmp 72) rfl g4 0 MA rfl rfl (by rw [HSZ.out]; exact HK4.out.there 106 (by rw [HZS.out]; exact Nat.le_refl _)) (by rw [HSZ.out]; exact msi_r) HON.out ?_))
   exact ms_ret (g := g4) (A := MA) rfl rfl rfl rfl HSZ.out (HK4.out.setAll (HSZ.out.trans HZS.out.symm)) ⟨mm, (by rw [← HMA.out]; unfold rdC; rw [HST.out, ← HE0.out, HZ.out]; rw [if_neg (by simp), if_neg (by unfold rdSd; rw [if_neg (by omega)]; simp)]; rfl), Below.setCells HL46.out _ _ _ HWE.out, HSY.out, HPC.out _ (But.setCells (S := fun k => k = g4) rfl _ _ _ (But.refl _ _))⟩
  ·have hbe : (((e0 : Nat) : Int) != 0) = true := by simp; omega
   have HZ := Lib.hid h0
   clear h0
   have K6 := HK6.out
   go_wp2_with (first | (refine wpList_load_row rfl 58 (.tmp 6) rfl g6 rfl 58 MA (0, 0) _ K6 Tryd.underlying58 rfl (by rw [HSZ.out]; exact msi_r) ?_) | (refine wpList_store_mid rfl 58 (.tmp 4) (.tmp 67) rfl g4 0 MA rfl rfl (by rw [HSZ.out]; exact HK4.out.there 106 (by rw [HZS.out]; exact Nat.le_refl _)) (by rw [HSZ.out]; exact msi_r) HON.out ?_))
   exact ms_ret (g := g4) (A := MA) rfl rfl rfl rfl HSZ.out (HK4.out.setAll (HSZ.out.trans HZS.out.symm)) ⟨mm, (by rw [← HMA.out]; unfold rdC; rw [HST.out, ← HE0.out]; rw [if_pos HZ.out]; rfl), Below.setCells HL46.out _ _ _ HWE.out, HSY.out, HPC.out _ (But.setCells (S := fun k => k = g4) rfl _ _ _ (But.refl _ _))⟩
 ·subst hk
  have hkd : kd = 8 := HKD.out
  subst hkd
  have HC := Lib.hid (nextnames_any p 64 v1 (xs, 0) W2 HA.out.rs HI.out (by decide))
  have HLE := Lib.hid (rdCount_le (xs, 0) 64)
  have hsz2 : w.heap.size ≤ W2.heap.size := HA.out.bel.size
  have HZ2 := Lib.hid hsz2
  clear hsz2
  go_wp2_with fail
  refine HC.out.mono ?_
  rintro e W3 ⟨sn, cn, l, rfl, hM, hlen, hsay, v3, T3⟩
  have HLS := Lib.hid (show (l.length = (rdCount (xs, 0) 64).1 ∧ NmSay (rdCount (xs, 0) 64).2 l) from ⟨hlen, hsay⟩)
  have hM := hM.lower HZ2.out
  clear hlen hsay
  have K4 := T3.2.1.keep K4 hn4
  have K6 := T3.2.1.keep K6 hn6
  have HA := Lib.hid (HA.out.took HP.out T3)
  have z6 := K6.lt
  have f6 := K6.frozen 3
  have c6 := K6.cell 3
  rw [show (msL m0).toArray[3]? = some (m0.nv) from rfl] at c6
  have hbt := But.set_ (S := fun k => k = g6) (But.refl _ W3) (.inl rfl) 3 none (.slice sn l.length cn)
  have HX := Lib.hid (show RdAt w (W3.setCell ⟨g6, 3, none⟩ (.slice sn l.length cn)) p g4 g6 v3 (nmSts (rdCount (xs, 0) 64).1 (rdCount (xs, 0) 64).2) ∧ Bk (W3.setCell ⟨g6, 3, none⟩ (.slice sn l.length cn)) g4 58 ZC ∧ Bk (W3.setCell ⟨g6, 3, none⟩ (.slice sn l.length cn)) g6 58 (msL ({ m0 with ns := sn, cn := cn, nm := l })).toArray ∧ MineR idR (W3.setCell ⟨g6, 3, none⟩ (.slice sn l.length cn)) w.heap.size (.slice sn l.length cn) l from ⟨HA.out.but6 hn6 HG6.out hbt, K4.far hn46 _, by rw [← ms_nm]; exact K6.set_ 3 _, hM.but' hbt K6 ne_ms_id⟩)
  clear T3 HC K4 K6 HA hbt hM
  go_upto_region 25 with fail
  refine wp_any (fun W' => RdAt w W' p g4 g6 v3 (nmSts (rdCount (xs, 0) 64).1 (rdCount (xs, 0) 64).2) ∧ Bk W' g4 58 ZC ∧ Bk W' g6 58 (msL ({ m0 with ns := sn, cn := cn, nm := l })).toArray ∧ MineR idR W' w.heap.size (.slice sn l.length cn) l) HX.out ?_
  clear HX z6 f6 c6
  rintro W4 ⟨hA, K4, K6, hM⟩
  have HA := Lib.hid hA
  have HM := Lib.hid hM
  clear hM
  clear hA
  have HEN := Lib.hid (rend_any p v3 (nmSts (rdCount (xs, 0) 64).1 (rdCount (xs, 0) 64).2) W4 HA.out.rs)
  obtain ⟨e0, he0⟩ : ∃ e, e = rdEnd (nmSts (rdCount (xs, 0) 64).1 (rdCount (xs, 0) 64).2) := ⟨_, rfl⟩
  rw [← he0] at HEN
  have HE0 := Lib.hid he0
  have HWE := Lib.hid HA.out.bel
  have HPC : Hid (∀ W', But (fun k => k = g4) W4 W' → MineMs W' w.heap.size ({ m0 with ns := sn, cn := cn, nm := l })) := fun W' h => ⟨⟨by rw [HM0.out]; show -9223372036854775808 ≤ ((8 : Int)) ∧ ((8 : Int)) ≤ 9223372036854775807; decide, (by rw [HM0.out]; show 0 < 18446744073709551616; decide), (by rw [HM0.out]; show 0 < 4294967296; decide), by rw [HM0.out]; exact hd0_is⟩, HM.out.but' h K4 ne_ms_id, by rw [HM0.out]; exact mine_nonh, by rw [HM0.out]; exact mine_nonb⟩
  have HSY : Hid (RdSays 8 xs ({ m0 with ns := sn, cn := cn, nm := l })) := by
   exact ⟨by rw [HM0.out]; rfl, fun h => by omega, fun h => by omega, fun h => by omega, fun _ => HLS.out, fun h => by omega, ⟨by rw [HM0.out]; rfl, by rw [HLS.out.1]; exact HLE.out, by rw [HM0.out]; exact Nat.zero_le _, (by rw [HM0.out]; unfold RdRest; exact ⟨fun h => by first | rfl | exact absurd h (by decide), fun h => by first | rfl | exact absurd h (by decide), fun h => by first | rfl | exact absurd h (by decide), fun h => by first | rfl | exact absurd h (by decide), fun h => by first | rfl | exact absurd h (by decide)⟩)⟩⟩
  have HST : Hid (rdSt 8 xs = nmSts (rdCount (xs, 0) 64).1 (rdCount (xs, 0) 64).2) := by show _ = _; rfl
  obtain ⟨mm, hmm⟩ : ∃ mm, mm = ({ m0 with ns := sn, cn := cn, nm := l }) := ⟨_, rfl⟩
  have HMI : Hid (IsHd mm.bk.hd) := by rw [hmm]; exact ((HPC.out W4 (But.refl _ _)).1).2.2.2
  rw [← hmm] at HPC HSY K6
  have HK4 := Lib.hid K4
  have HSZ : Hid ((msL mm).toArray.size = 106) := msL_len HMI.out
  have HON : Hid ((msL mm).toArray.all (·.oneCell') = true) := all_oneCell_toArray (msL_one mm)
  have HZS : Hid (ZC.size = 106) := by show ZC.size = 106; rw [HZC.out]; exact hZ.out
  clear he0 hmm HA K4
  obtain ⟨MA, hMA⟩ : ∃ MA, MA = (msL mm).toArray := ⟨_, rfl⟩
  rw [← hMA] at K6 HSZ HON
  have HMA := Lib.hid hMA
  have HK6 := Lib.hid K6
  clear hMA K6
  go_wp2_with fail
  refine HEN.out.mono ?_
  rintro e1 W' ⟨rfl, rfl⟩
  clear HEN
  by_cases h0 : e0 = 0
  ·have hbe : (((e0 : Nat) : Int) != 0) = false := by rw [h0]; rfl
   have HZ := Lib.hid h0
   clear h0
   have K6 := HK6.out
   go_wp2_with (first | (refine wpList_load_row rfl 58 (.tmp 6) rfl g6 rfl 58 MA (0, 0) _ K6 Tryd.underlying58 rfl (by rw [HSZ.out]; exact msi_r) ?_) | (refine wpList_store_mid rfl 58 (.tmp 4) (.tmp 72) rfl g4 0 MA rfl rfl (by rw [HSZ.out]; exact HK4.out.there 106 (by rw [HZS.out]; exact Nat.le_refl _)) (by rw [HSZ.out]; exact msi_r) HON.out ?_))
   exact ms_ret (g := g4) (A := MA) rfl rfl rfl rfl HSZ.out (HK4.out.setAll (HSZ.out.trans HZS.out.symm)) ⟨mm, (by rw [← HMA.out]; unfold rdC; rw [HST.out, ← HE0.out, HZ.out]; rw [if_neg (by simp), if_neg (by unfold rdSd; rw [if_neg (by omega)]; simp)]; rfl), Below.setCells HL46.out _ _ _ HWE.out, HSY.out, HPC.out _ (But.setCells (S := fun k => k = g4) rfl _ _ _ (But.refl _ _))⟩
  ·have hbe : (((e0 : Nat) : Int) != 0) = true := by simp; omega
   have HZ := Lib.hid h0
   clear h0
   have K6 := HK6.out
   go_wp2_with (first | (refine wpList_load_row rfl 58 (.tmp 6) rfl g6 rfl 58 MA (0, 0) _ K6 Tryd.underlying58 rfl (by rw [HSZ.out]; exact msi_r) ?_) | (refine wpList_store_mid rfl 58 (.tmp 4) (.tmp 67) rfl g4 0 MA rfl rfl (by rw [HSZ.out]; exact HK4.out.there 106 (by rw [HZS.out]; exact Nat.le_refl _)) (by rw [HSZ.out]; exact msi_r) HON.out ?_))
   exact ms_ret (g := g4) (A := MA) rfl rfl rfl rfl HSZ.out (HK4.out.setAll (HSZ.out.trans HZS.out.symm)) ⟨mm, (by rw [← HMA.out]; unfold rdC; rw [HST.out, ← HE0.out]; rw [if_pos HZ.out]; rfl), Below.setCells HL46.out _ _ _ HWE.out, HSY.out, HPC.out _ (But.setCells (S := fun k => k = g4) rfl _ _ _ (But.refl _ _))⟩
 ·subst hk
  have hkd : kd = 9 := HKD.out
  subst hkd
  have HC := Lib.hid (num_any p 8 v1 (xs, 0) W2 HA.out.rs HI.out.ok)
  have HLT := Lib.hid (num8_lt (xs, 0) HI.out)
  obtain ⟨N, hN⟩ : ∃ N, N = (rdNum (xs, 0) 8).1 := ⟨_, rfl⟩
  rw [← hN] at HC HLT
  have HN := Lib.hid hN
  clear hN
  go_wp2_with fail
  refine HC.out.mono ?_
  rintro e W3 ⟨rfl, v3, T3⟩
  have K4 := T3.2.1.keep K4 hn4
  have K6 := T3.2.1.keep K6 hn6
  have HA := Lib.hid (HA.out.took HP.out T3)
  have z6 := K6.lt
  have f6 := K6.frozen 1
  have c6 := K6.cell 1
  rw [show (msL m0).toArray[1]? = some (.int .u64 (m0.nc : Int)) from rfl] at c6
  have HX := Lib.hid (show RdAt w (W3.setCell ⟨g6, 1, none⟩ (.int .u64 (N : Int))) p g4 g6 v3 (rdNum (xs, 0) 8).2 ∧ Bk (W3.setCell ⟨g6, 1, none⟩ (.int .u64 (N : Int))) g4 58 ZC ∧ Bk (W3.setCell ⟨g6, 1, none⟩ (.int .u64 (N : Int))) g6 58 (msL { m0 with nc := N }).toArray from ⟨HA.out.but6 hn6 HG6.out (But.set_ (S := fun k => k = g6) (But.refl _ W3) (.inl rfl) 1 none _), K4.far hn46 _, by rw [← ms_nc]; exact K6.set_ 1 _⟩)
  clear T3 HC K4 K6 HA
  go_upto_region 25 with fail
  refine wp_any (fun W' => RdAt w W' p g4 g6 v3 (rdNum (xs, 0) 8).2 ∧ Bk W' g4 58 ZC ∧ Bk W' g6 58 (msL { m0 with nc := N }).toArray) ⟨HX.out.1, HX.out.2.1, HX.out.2.2⟩ ?_
  clear HX z6 f6 c6
  rintro W4 ⟨hA, K4, K6⟩
  have HA := Lib.hid hA
  clear hA
  have HEN := Lib.hid (rend_any p v3 ((rdNum (xs, 0) 8).2) W4 HA.out.rs)
  obtain ⟨e0, he0⟩ : ∃ e, e = rdEnd ((rdNum (xs, 0) 8).2) := ⟨_, rfl⟩
  rw [← he0] at HEN
  have HE0 := Lib.hid he0
  have HWE := Lib.hid HA.out.bel
  have HPC : Hid (∀ W', But (fun k => k = g4) W4 W' → MineMs W' w.heap.size ({ m0 with nc := N })) := fun W' h => ⟨⟨by rw [HM0.out]; show -9223372036854775808 ≤ ((9 : Int)) ∧ ((9 : Int)) ≤ 9223372036854775807; decide, HLT.out, (by rw [HM0.out]; show 0 < 4294967296; decide), by rw [HM0.out]; exact hd0_is⟩, by rw [HM0.out]; exact mine_none, by rw [HM0.out]; exact mine_nonh, by rw [HM0.out]; exact mine_nonb⟩
  have HSY : Hid (RdSays 9 xs ({ m0 with nc := N })) := by
   exact ⟨by rw [HM0.out]; rfl, fun h => by omega, fun h => by omega, fun h => by omega, fun h => by omega, fun _ => HN.out, ⟨by rw [HM0.out]; rfl, by rw [HM0.out]; exact Nat.zero_le _, by rw [HM0.out]; exact Nat.zero_le _, (by rw [HM0.out]; unfold RdRest; exact ⟨fun h => by first | rfl | exact absurd h (by decide), fun h => by first | rfl | exact absurd h (by decide), fun h => by first | rfl | exact absurd h (by decide), fun h => by first | rfl | exact absurd h (by decide), fun h => by first | rfl | exact absurd h (by decide)⟩)⟩⟩
  have HST : Hid (rdSt 9 xs = (rdNum (xs, 0) 8).2) := by show _ = _; rfl
  obtain ⟨mm, hmm⟩ : ∃ mm, mm = ({ m0 with nc := N }) := ⟨_, rfl⟩
  have HMI : Hid (IsHd mm.bk.hd) := by rw [hmm]; exact ((HPC.out W4 (But.refl _ _)).1).2.2.2
  rw [← hmm] at HPC HSY K6
  have HK4 := Lib.hid K4
  have HSZ : Hid ((msL mm).toArray.size = 106) := msL_len HMI.out
  have HON : Hid ((msL mm).toArray.all (·.oneCell') = true) := all_oneCell_toArray (msL_one mm)
  have HZS : Hid (ZC.size = 106) := by show ZC.size = 106; rw [HZC.out]; exact hZ.out
  clear he0 hmm HA K4
  obtain ⟨MA, hMA⟩ : ∃ MA, MA = (msL mm).toArray := ⟨_, rfl⟩
  rw [← hMA] at K6 HSZ HON
  have HMA := Lib.hid hMA
  have HK6 := Lib.hid K6
  clear hMA K6
  go_wp2_with fail
  refine HEN.out.mono ?_
  rintro e1 W' ⟨rfl, rfl⟩
  clear HEN
  by_cases h0 : e0 = 0
  ·have hbe : (((e0 : Nat) : Int) != 0) = false := by rw [h0]; rfl
   have HZ := Lib.hid h0
   clear h0
   have K6 := HK6.out
   go_wp2_with (first | (refine wpList_load_row rfl 58 (.tmp 6) rfl g6 rfl 58 MA (0, 0) _ K6 Tryd.underlying58 rfl (by rw [HSZ.out]; exact msi_r) ?_) | (refine wpList_store_mid rfl 58 (.tmp 4) (.tmp 72) rfl g4 0 MA rfl rfl (by rw [HSZ.out]; exact HK4.out.there 106 (by rw [HZS.out]; exact Nat.le_refl _)) (by rw [HSZ.out]; exact msi_r) HON.out ?_))
   exact ms_ret (g := g4) (A := MA) rfl rfl rfl rfl HSZ.out (HK4.out.setAll (HSZ.out.trans HZS.out.symm)) ⟨mm, (by rw [← HMA.out]; unfold rdC; rw [HST.out, ← HE0.out, HZ.out]; rw [if_neg (by simp), if_neg (by unfold rdSd; rw [if_neg (by omega)]; simp)]; rfl), Below.setCells HL46.out _ _ _ HWE.out, HSY.out, HPC.out _ (But.setCells (S := fun k => k = g4) rfl _ _ _ (But.refl _ _))⟩
  ·have hbe : (((e0 : Nat) : Int) != 0) = true := by simp; omega
   have HZ := Lib.hid h0
   clear h0
   have K6 := HK6.out
   go_wp2_with (first | (refine wpList_load_row rfl 58 (.tmp 6) rfl g6 rfl 58 MA (0, 0) _ K6 Tryd.underlying58 rfl (by rw [HSZ.out]; exact msi_r) ?_) | (refine wpList_store_mid rfl 58 (.tmp 4) (.tmp 67) rfl g4 0 MA rfl rfl (by rw [HSZ.out]; exact HK4.out.there 106 (by rw [HZS.out]; exact Nat.le_refl _)) (by rw [HSZ.out]; exact msi_r) HON.out ?_))
   exact ms_ret (g := g4) (A := MA) rfl rfl rfl rfl HSZ.out (HK4.out.setAll (HSZ.out.trans HZS.out.symm)) ⟨mm, (by rw [← HMA.out]; unfold rdC; rw [HST.out, ← HE0.out]; rw [if_pos HZ.out]; rfl), Below.setCells HL46.out _ _ _ HWE.out, HSY.out, HPC.out _ (But.setCells (S := fun k => k = g4) rfl _ _ _ (But.refl _ _))⟩
 ·subst hk
  have hkd : kd = 10 := HKD.out
  subst hkd
  have HC := Lib.hid (num_any p 8 v1 (xs, 0) W2 HA.out.rs HI.out.ok)
  have HLT := Lib.hid (num8_lt (xs, 0) HI.out)
  obtain ⟨N, hN⟩ : ∃ N, N = (rdNum (xs, 0) 8).1 := ⟨_, rfl⟩
  rw [← hN] at HC HLT
  have HN := Lib.hid hN
  clear hN
  go_wp2_with fail
  refine HC.out.mono ?_
  rintro e W3 ⟨rfl, v3, T3⟩
  have K4 := T3.2.1.keep K4 hn4
  have K6 := T3.2.1.keep K6 hn6
  have HA := Lib.hid (HA.out.took HP.out T3)
  have z6 := K6.lt
  have f6 := K6.frozen 1
  have c6 := K6.cell 1
  rw [show (msL m0).toArray[1]? = some (.int .u64 (m0.nc : Int)) from rfl] at c6
  have HX := Lib.hid (show RdAt w (W3.setCell ⟨g6, 1, none⟩ (.int .u64 (N : Int))) p g4 g6 v3 (rdNum (xs, 0) 8).2 ∧ Bk (W3.setCell ⟨g6, 1, none⟩ (.int .u64 (N : Int))) g4 58 ZC ∧ Bk (W3.setCell ⟨g6, 1, none⟩ (.int .u64 (N : Int))) g6 58 (msL { m0 with nc := N }).toArray from ⟨HA.out.but6 hn6 HG6.out (But.set_ (S := fun k => k = g6) (But.refl _ W3) (.inl rfl) 1 none _), K4.far hn46 _, by rw [← ms_nc]; exact K6.set_ 1 _⟩)
  clear T3 HC K4 K6 HA
  go_upto_region 25 with fail
  refine wp_any (fun W' => RdAt w W' p g4 g6 v3 (rdNum (xs, 0) 8).2 ∧ Bk W' g4 58 ZC ∧ Bk W' g6 58 (msL { m0 with nc := N }).toArray) ⟨HX.out.1, HX.out.2.1, HX.out.2.2⟩ ?_
  clear HX z6 f6 c6
  rintro W4 ⟨hA, K4, K6⟩
  have HA := Lib.hid hA
  clear hA
  have HEN := Lib.hid (rend_any p v3 ((rdNum (xs, 0) 8).2) W4 HA.out.rs)
  obtain ⟨e0, he0⟩ : ∃ e, e = rdEnd ((rdNum (xs, 0) 8).2) := ⟨_, rfl⟩
  rw [← he0] at HEN
  have HE0 := Lib.hid he0
  have HWE := Lib.hid HA.out.bel
  have HPC : Hid (∀ W', But (fun k => k = g4) W4 W' → MineMs W' w.heap.size ({ m0 with nc := N })) := fun W' h => ⟨⟨by rw [HM0.out]; show -9223372036854775808 ≤ ((10 : Int)) ∧ ((10 : Int)) ≤ 9223372036854775807; decide, HLT.out, (by rw [HM0.out]; show 0 < 4294967296; decide), by rw [HM0.out]; exact hd0_is⟩, by rw [HM0.out]; exact mine_none, by rw [HM0.out]; exact mine_nonh, by rw [HM0.out]; exact mine_nonb⟩
  have HSY : Hid (RdSays 10 xs ({ m0 with nc := N })) := by
   exact ⟨by rw [HM0.out]; rfl, fun h => by omega, fun h => by omega, fun h => by omega, fun h => by omega, fun _ => HN.out, ⟨by rw [HM0.out]; rfl, by rw [HM0.out]; exact Nat.zero_le _, by rw [HM0.out]; exact Nat.zero_le _, (by rw [HM0.out]; unfold RdRest; exact ⟨fun h => by first | rfl | exact absurd h (by decide), fun h => by first | rfl | exact absurd h (by decide), fun h => by first | rfl | exact absurd h (by decide), fun h => by first | rfl | exact absurd h (by decide), fun h => by first | rfl | exact absurd h (by decide)⟩)⟩⟩
  have HST : Hid (rdSt 10 xs = (rdNum (xs, 0) 8).2) := by show _ = _; rfl
  obtain ⟨mm, hmm⟩ : ∃ mm, mm = ({ m0 with nc := N }) := ⟨_, rfl⟩
  have HMI : Hid (IsHd mm.bk.hd) := by rw [hmm]; exact ((HPC.out W4 (But.refl _ _)).1).2.2.2
  rw [← hmm] at HPC HSY K6
  have HK4 := Lib.hid K4
  have HSZ : Hid ((msL mm).toArray.size = 106) := msL_len HMI.out
  have HON : Hid ((msL mm).toArray.all (·.oneCell') = true) := all_oneCell_toArray (msL_one mm)
  have HZS : Hid (ZC.size = 106) := by show ZC.size = 106; rw [HZC.out]; exact hZ.out
  clear he0 hmm HA K4
  obtain ⟨MA, hMA⟩ : ∃ MA, MA = (msL mm).toArray := ⟨_, rfl⟩
  rw [← hMA] at K6 HSZ HON
  have HMA := Lib.hid hMA
  have HK6 := Lib.hid K6
  clear hMA K6
  go_wp2_with fail
  refine HEN.out.mono ?_
  rintro e1 W' ⟨rfl, rfl⟩
  clear HEN
  by_cases h0 : e0 = 0
  ·have hbe : (((e0 : Nat) : Int) != 0) = false := by rw [h0]; rfl
   have HZ := Lib.hid h0
   clear h0
   have K6 := HK6.out
   go_wp2_with (first | (refine wpList_load_row rfl 58 (.tmp 6) rfl g6 rfl 58 MA (0, 0) _ K6 Tryd.underlying58 rfl (by rw [HSZ.out]; exact msi_r) ?_) | (refine wpList_store_mid rfl 58 (.tmp 4) (.tmp 72) rfl g4 0 MA rfl rfl (by rw [HSZ.out]; exact HK4.out.there 106 (by rw [HZS.out]; exact Nat.le_refl _)) (by rw [HSZ.out]; exact msi_r) HON.out ?_))
   exact ms_ret (g := g4) (A := MA) rfl rfl rfl rfl HSZ.out (HK4.out.setAll (HSZ.out.trans HZS.out.symm)) ⟨mm, (by rw [← HMA.out]; unfold rdC; rw [HST.out, ← HE0.out, HZ.out]; rw [if_neg (by simp), if_neg (by unfold rdSd; rw [if_neg (by omega)]; simp)]; rfl), Below.setCells HL46.out _ _ _ HWE.out, HSY.out, HPC.out _ (But.setCells (S := fun k => k = g4) rfl _ _ _ (But.refl _ _))⟩
  ·have hbe : (((e0 : Nat) : Int) != 0) = true := by simp; omega
   have HZ := Lib.hid h0
   clear h0
   have K6 := HK6.out
   go_wp2_with (first | (refine wpList_load_row rfl 58 (.tmp 6) rfl g6 rfl 58 MA (0, 0) _ K6 Tryd.underlying58 rfl (by rw [HSZ.out]; exact msi_r) ?_) | (refine wpList_store_mid rfl 58 (.tmp 4) (.tmp 67) rfl g4 0 MA rfl rfl (by rw [HSZ.out]; exact HK4.out.there 106 (by rw [HZS.out]; exact Nat.le_refl _)) (by rw [HSZ.out]; exact msi_r) HON.out ?_))
   exact ms_ret (g := g4) (A := MA) rfl rfl rfl rfl HSZ.out (HK4.out.setAll (HSZ.out.trans HZS.out.symm)) ⟨mm, (by rw [← HMA.out]; unfold rdC; rw [HST.out, ← HE0.out]; rw [if_pos HZ.out]; rfl), Below.setCells HL46.out _ _ _ HWE.out, HSY.out, HPC.out _ (But.setCells (S := fun k => k = g4) rfl _ _ _ (But.refl _ _))⟩
end Go.Proofs.YtkpffjcdalclmaaDoor
