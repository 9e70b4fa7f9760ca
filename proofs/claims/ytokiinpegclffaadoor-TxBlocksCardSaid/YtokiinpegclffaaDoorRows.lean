/-
  NARROWER THAN 'FOR EVERY INPUT', by the rows' own cells (each row's printed sentence says how): TxApart: laid · TxOwn: laid · TxReads: laid · TxRoots: laid · TxCuts: laid · TxBlocks: laid · FrameWrites: laid · FrameReads: laid · FrameStops: laid · FrameOwn: laid · FrameRow: laid · FrameBig: laid · WholeWords: laid.
  DERIVED. THE GIVEN ROWS OF THIS SEAT. 13 by the template 'for every input the law returns true; each argument reads behind the call as it read before'; 0 by the template 'total and deterministic' (their statements: YtokiinpegclffaaDoorTotals.lean).
  GIVEN WITH THE SEED: the statements are not yours to turn. If you find one false, say at which input.
  Laid BY PROGRAM, IN A SANDBOX (cutbox-rows.mjs): the forced cells as the released guide's own fill.sh prints them over the translation 180a66dc7409a0bd… (all of the seat's roots in one cut). By AI agents, Wed Nov 11 2026. No macro, syntax, notation, axiom, sorry.
-/
import Derived.Test.YtokiinpegclffaaDoorChecked
import GoSem.Claim
import GoSem.ClaimJoined
import GoSem.ClaimMapViews
import Derived.JoinedTies
import Derived.KernelRfl
namespace Go.Proofs.YtokiinpegclffaaDoor
/- THE CELL 'sum', in the pinned program and in every row, IS THE sha256 OF THE DUMP (.gsa) THAT YtokiinpegclffaaDoorProg.lean LOADS. Nothing in Lean hashes anything: it is a label: what it is worth is what the hold of that sum in a sandbox is worth. -/
noncomputable def Tryd.pinned : Pinned := { name := "ytokiinpegclffaadoor", sum := "180a66dc7409a0bd4fd800f553ab78277a422383fa68ddc104d2505ebdac95ce", checked := Tryd.checked }
namespace Rows
def none {H : Type} : Left H := { results := [], args := [] }

/- WHAT THE LISTED PACKAGE-LEVEL VARIABLES READ AS WHEN THE CALL BEGINS. Each datum BY PROGRAM (the guide's laid-datum.mjs) off the statement by which the dump's own 'gosem.cut.vars' lays the variable. In a bare row this is a premise. The card (YtokiinpegclffaaDoorCards.lean) ties it to the program's text. -/
def laid_tallystick_hash_start {H : Type} : DataW H := .agg [.lit (.int .u32 1779033703), .lit (.int .u32 3144134277), .lit (.int .u32 1013904242), .lit (.int .u32 2773480762), .lit (.int .u32 1359893119), .lit (.int .u32 2600822924), .lit (.int .u32 528734635), .lit (.int .u32 1541459225)]
def laid_tallystick_hash_rounds {H : Type} : DataW H := .agg [.lit (.int .u32 1116352408), .lit (.int .u32 1899447441), .lit (.int .u32 3049323471), .lit (.int .u32 3921009573), .lit (.int .u32 961987163), .lit (.int .u32 1508970993), .lit (.int .u32 2453635748), .lit (.int .u32 2870763221), .lit (.int .u32 3624381080), .lit (.int .u32 310598401), .lit (.int .u32 607225278), .lit (.int .u32 1426881987), .lit (.int .u32 1925078388), .lit (.int .u32 2162078206), .lit (.int .u32 2614888103), .lit (.int .u32 3248222580), .lit (.int .u32 3835390401), .lit (.int .u32 4022224774), .lit (.int .u32 264347078), .lit (.int .u32 604807628), .lit (.int .u32 770255983), .lit (.int .u32 1249150122), .lit (.int .u32 1555081692), .lit (.int .u32 1996064986), .lit (.int .u32 2554220882), .lit (.int .u32 2821834349), .lit (.int .u32 2952996808), .lit (.int .u32 3210313671), .lit (.int .u32 3336571891), .lit (.int .u32 3584528711), .lit (.int .u32 113926993), .lit (.int .u32 338241895), .lit (.int .u32 666307205), .lit (.int .u32 773529912), .lit (.int .u32 1294757372), .lit (.int .u32 1396182291), .lit (.int .u32 1695183700), .lit (.int .u32 1986661051), .lit (.int .u32 2177026350), .lit (.int .u32 2456956037), .lit (.int .u32 2730485921), .lit (.int .u32 2820302411), .lit (.int .u32 3259730800), .lit (.int .u32 3345764771), .lit (.int .u32 3516065817), .lit (.int .u32 3600352804), .lit (.int .u32 4094571909), .lit (.int .u32 275423344), .lit (.int .u32 430227734), .lit (.int .u32 506948616), .lit (.int .u32 659060556), .lit (.int .u32 883997877), .lit (.int .u32 958139571), .lit (.int .u32 1322822218), .lit (.int .u32 1537002063), .lit (.int .u32 1747873779), .lit (.int .u32 1955562222), .lit (.int .u32 2024104815), .lit (.int .u32 2227730452), .lit (.int .u32 2361852424), .lit (.int .u32 2428436474), .lit (.int .u32 2756734187), .lit (.int .u32 3204031479), .lit (.int .u32 3329325298)]

/-- 'tallysticklaw07.TxApart': WHATEVER THE INPUT: true; the input reads as it did. -/
def txApartSpec : ChangeSpec := { name := "txApart", fn := fun _ => fun
  | [d1, d2] => { results := [.lit (.bool true)], args := [d1, d2] }
  | _ => none }
def txApartRow : OpenClaim := { program := "ytokiinpegclffaadoor", sum := "180a66dc7409a0bd4fd800f553ab78277a422383fa68ddc104d2505ebdac95ce", func := "tallystick/tallysticklaw07.TxApart", spec := "txApart", named := ["tallystick/hash.start", "tallystick/hash.rounds"], apart := false, laid := [("tallystick/hash.start", laid_tallystick_hash_start), ("tallystick/hash.rounds", laid_tallystick_hash_rounds)] }
def TxApartSaid : Prop := txApartRow.holds Tryd.pinned (OpenSpec.ofChange txApartSpec)

/-- ITS FALSE NEIGHBOUR: 'it returns false'. Refute it at one input. -/
def txApartWrong : ChangeSpec := { name := "txApart", fn := fun _ => fun
  | [d1, d2] => { results := [.lit (.bool false)], args := [d1, d2] }
  | _ => none }
def TxApartWrongFalsely : Prop := txApartRow.holds Tryd.pinned (OpenSpec.ofChange txApartWrong)

/-- 'tallysticklaw07.TxOwn': WHATEVER THE INPUT: true; the input reads as it did. -/
def txOwnSpec : ChangeSpec := { name := "txOwn", fn := fun _ => fun
  | [d] => { results := [.lit (.bool true)], args := [d] }
  | _ => none }
def txOwnRow : OpenClaim := { program := "ytokiinpegclffaadoor", sum := "180a66dc7409a0bd4fd800f553ab78277a422383fa68ddc104d2505ebdac95ce", func := "tallystick/tallysticklaw07.TxOwn", spec := "txOwn", named := ["tallystick/hash.start", "tallystick/hash.rounds"], apart := false, laid := [("tallystick/hash.start", laid_tallystick_hash_start), ("tallystick/hash.rounds", laid_tallystick_hash_rounds)] }
def TxOwnSaid : Prop := txOwnRow.holds Tryd.pinned (OpenSpec.ofChange txOwnSpec)

/-- ITS FALSE NEIGHBOUR: 'it returns false'. Refute it at one input. -/
def txOwnWrong : ChangeSpec := { name := "txOwn", fn := fun _ => fun
  | [d] => { results := [.lit (.bool false)], args := [d] }
  | _ => none }
def TxOwnWrongFalsely : Prop := txOwnRow.holds Tryd.pinned (OpenSpec.ofChange txOwnWrong)

/-- 'tallysticklaw07.TxReads': WHATEVER THE INPUT: true; the input reads as it did. -/
def txReadsSpec : ChangeSpec := { name := "txReads", fn := fun _ => fun
  | [d] => { results := [.lit (.bool true)], args := [d] }
  | _ => none }
def txReadsRow : OpenClaim := { program := "ytokiinpegclffaadoor", sum := "180a66dc7409a0bd4fd800f553ab78277a422383fa68ddc104d2505ebdac95ce", func := "tallystick/tallysticklaw07.TxReads", spec := "txReads", named := ["tallystick/hash.start", "tallystick/hash.rounds"], apart := false, laid := [("tallystick/hash.start", laid_tallystick_hash_start), ("tallystick/hash.rounds", laid_tallystick_hash_rounds)] }
def TxReadsSaid : Prop := txReadsRow.holds Tryd.pinned (OpenSpec.ofChange txReadsSpec)

/-- ITS FALSE NEIGHBOUR: 'it returns false'. Refute it at one input. -/
def txReadsWrong : ChangeSpec := { name := "txReads", fn := fun _ => fun
  | [d] => { results := [.lit (.bool false)], args := [d] }
  | _ => none }
def TxReadsWrongFalsely : Prop := txReadsRow.holds Tryd.pinned (OpenSpec.ofChange txReadsWrong)

/-- 'tallysticklaw07.TxRoots': WHATEVER THE INPUT: true; the input reads as it did. -/
def txRootsSpec : ChangeSpec := { name := "txRoots", fn := fun _ => fun
  | [d] => { results := [.lit (.bool true)], args := [d] }
  | _ => none }
def txRootsRow : OpenClaim := { program := "ytokiinpegclffaadoor", sum := "180a66dc7409a0bd4fd800f553ab78277a422383fa68ddc104d2505ebdac95ce", func := "tallystick/tallysticklaw07.TxRoots", spec := "txRoots", recurses := true, named := ["tallystick/hash.start", "tallystick/hash.rounds"], apart := false, laid := [("tallystick/hash.start", laid_tallystick_hash_start), ("tallystick/hash.rounds", laid_tallystick_hash_rounds)] }
def TxRootsSaid : Prop := txRootsRow.holds Tryd.pinned (OpenSpec.ofChange txRootsSpec)

/-- ITS FALSE NEIGHBOUR: 'it returns false'. Refute it at one input. -/
def txRootsWrong : ChangeSpec := { name := "txRoots", fn := fun _ => fun
  | [d] => { results := [.lit (.bool false)], args := [d] }
  | _ => none }
def TxRootsWrongFalsely : Prop := txRootsRow.holds Tryd.pinned (OpenSpec.ofChange txRootsWrong)

/-- 'tallysticklaw07.TxCuts': WHATEVER THE INPUT: true; the input reads as it did. -/
def txCutsSpec : ChangeSpec := { name := "txCuts", fn := fun _ => fun
  | [d1, d2, d3] => { results := [.lit (.bool true)], args := [d1, d2, d3] }
  | _ => none }
def txCutsRow : OpenClaim := { program := "ytokiinpegclffaadoor", sum := "180a66dc7409a0bd4fd800f553ab78277a422383fa68ddc104d2505ebdac95ce", func := "tallystick/tallysticklaw07.TxCuts", spec := "txCuts", named := ["tallystick/hash.start", "tallystick/hash.rounds"], apart := false, laid := [("tallystick/hash.start", laid_tallystick_hash_start), ("tallystick/hash.rounds", laid_tallystick_hash_rounds)] }
def TxCutsSaid : Prop := txCutsRow.holds Tryd.pinned (OpenSpec.ofChange txCutsSpec)

/-- ITS FALSE NEIGHBOUR: 'it returns false'. Refute it at one input. -/
def txCutsWrong : ChangeSpec := { name := "txCuts", fn := fun _ => fun
  | [d1, d2, d3] => { results := [.lit (.bool false)], args := [d1, d2, d3] }
  | _ => none }
def TxCutsWrongFalsely : Prop := txCutsRow.holds Tryd.pinned (OpenSpec.ofChange txCutsWrong)

/-- 'tallysticklaw07.TxBlocks': WHATEVER THE INPUT: true; the input reads as it did. -/
def txBlocksSpec : ChangeSpec := { name := "txBlocks", fn := fun _ => fun
  | [d1, d2] => { results := [.lit (.bool true)], args := [d1, d2] }
  | _ => none }
def txBlocksRow : OpenClaim := { program := "ytokiinpegclffaadoor", sum := "180a66dc7409a0bd4fd800f553ab78277a422383fa68ddc104d2505ebdac95ce", func := "tallystick/tallysticklaw07.TxBlocks", spec := "txBlocks", named := ["tallystick/hash.start", "tallystick/hash.rounds"], apart := false, laid := [("tallystick/hash.start", laid_tallystick_hash_start), ("tallystick/hash.rounds", laid_tallystick_hash_rounds)] }
def TxBlocksSaid : Prop := txBlocksRow.holds Tryd.pinned (OpenSpec.ofChange txBlocksSpec)

/-- ITS FALSE NEIGHBOUR: 'it returns false'. Refute it at one input. -/
def txBlocksWrong : ChangeSpec := { name := "txBlocks", fn := fun _ => fun
  | [d1, d2] => { results := [.lit (.bool false)], args := [d1, d2] }
  | _ => none }
def TxBlocksWrongFalsely : Prop := txBlocksRow.holds Tryd.pinned (OpenSpec.ofChange txBlocksWrong)

/-- 'tallysticklaw08.FrameWrites': WHATEVER THE INPUT: true; the input reads as it did. -/
def frameWritesSpec : ChangeSpec := { name := "frameWrites", fn := fun _ => fun
  | [d1, d2] => { results := [.lit (.bool true)], args := [d1, d2] }
  | _ => none }
def frameWritesRow : OpenClaim := { program := "ytokiinpegclffaadoor", sum := "180a66dc7409a0bd4fd800f553ab78277a422383fa68ddc104d2505ebdac95ce", func := "tallystick/tallysticklaw08.FrameWrites", spec := "frameWrites", inPlace := ["internal/bytealg.IndexByte", "internal/bytealg.Index"], named := ["tallystick/hash.start", "tallystick/hash.rounds", "internal/bytealg.MaxLen"], apart := false, laid := [("tallystick/hash.start", laid_tallystick_hash_start), ("tallystick/hash.rounds", laid_tallystick_hash_rounds)] }
def FrameWritesSaid : Prop := frameWritesRow.holds Tryd.pinned (OpenSpec.ofChange frameWritesSpec)

/-- ITS FALSE NEIGHBOUR: 'it returns false'. Refute it at one input. -/
def frameWritesWrong : ChangeSpec := { name := "frameWrites", fn := fun _ => fun
  | [d1, d2] => { results := [.lit (.bool false)], args := [d1, d2] }
  | _ => none }
def FrameWritesWrongFalsely : Prop := frameWritesRow.holds Tryd.pinned (OpenSpec.ofChange frameWritesWrong)

/-- 'tallysticklaw08.FrameReads': WHATEVER THE INPUT: true; the input reads as it did. -/
def frameReadsSpec : ChangeSpec := { name := "frameReads", fn := fun _ => fun
  | [d1, d2] => { results := [.lit (.bool true)], args := [d1, d2] }
  | _ => none }
def frameReadsRow : OpenClaim := { program := "ytokiinpegclffaadoor", sum := "180a66dc7409a0bd4fd800f553ab78277a422383fa68ddc104d2505ebdac95ce", func := "tallystick/tallysticklaw08.FrameReads", spec := "frameReads", inPlace := ["internal/bytealg.IndexByte", "internal/bytealg.Index"], named := ["tallystick/hash.start", "tallystick/hash.rounds", "internal/bytealg.MaxLen"], apart := false, laid := [("tallystick/hash.start", laid_tallystick_hash_start), ("tallystick/hash.rounds", laid_tallystick_hash_rounds)] }
def FrameReadsSaid : Prop := frameReadsRow.holds Tryd.pinned (OpenSpec.ofChange frameReadsSpec)

/-- ITS FALSE NEIGHBOUR: 'it returns false'. Refute it at one input. -/
def frameReadsWrong : ChangeSpec := { name := "frameReads", fn := fun _ => fun
  | [d1, d2] => { results := [.lit (.bool false)], args := [d1, d2] }
  | _ => none }
def FrameReadsWrongFalsely : Prop := frameReadsRow.holds Tryd.pinned (OpenSpec.ofChange frameReadsWrong)

/-- 'tallysticklaw08.FrameStops': WHATEVER THE INPUT: true; the input reads as it did. -/
def frameStopsSpec : ChangeSpec := { name := "frameStops", fn := fun _ => fun
  | [d1, d2] => { results := [.lit (.bool true)], args := [d1, d2] }
  | _ => none }
def frameStopsRow : OpenClaim := { program := "ytokiinpegclffaadoor", sum := "180a66dc7409a0bd4fd800f553ab78277a422383fa68ddc104d2505ebdac95ce", func := "tallystick/tallysticklaw08.FrameStops", spec := "frameStops", inPlace := ["internal/bytealg.IndexByte", "internal/bytealg.Index"], named := ["tallystick/hash.start", "tallystick/hash.rounds", "internal/bytealg.MaxLen"], apart := false, laid := [("tallystick/hash.start", laid_tallystick_hash_start), ("tallystick/hash.rounds", laid_tallystick_hash_rounds)] }
def FrameStopsSaid : Prop := frameStopsRow.holds Tryd.pinned (OpenSpec.ofChange frameStopsSpec)

/-- ITS FALSE NEIGHBOUR: 'it returns false'. Refute it at one input. -/
def frameStopsWrong : ChangeSpec := { name := "frameStops", fn := fun _ => fun
  | [d1, d2] => { results := [.lit (.bool false)], args := [d1, d2] }
  | _ => none }
def FrameStopsWrongFalsely : Prop := frameStopsRow.holds Tryd.pinned (OpenSpec.ofChange frameStopsWrong)

/-- 'tallysticklaw08.FrameOwn': WHATEVER THE INPUT: true; the input reads as it did. -/
def frameOwnSpec : ChangeSpec := { name := "frameOwn", fn := fun _ => fun
  | [d1, d2] => { results := [.lit (.bool true)], args := [d1, d2] }
  | _ => none }
def frameOwnRow : OpenClaim := { program := "ytokiinpegclffaadoor", sum := "180a66dc7409a0bd4fd800f553ab78277a422383fa68ddc104d2505ebdac95ce", func := "tallystick/tallysticklaw08.FrameOwn", spec := "frameOwn", inPlace := ["internal/bytealg.IndexByte", "internal/bytealg.Index"], named := ["tallystick/hash.start", "tallystick/hash.rounds", "internal/bytealg.MaxLen"], apart := false, laid := [("tallystick/hash.start", laid_tallystick_hash_start), ("tallystick/hash.rounds", laid_tallystick_hash_rounds)] }
def FrameOwnSaid : Prop := frameOwnRow.holds Tryd.pinned (OpenSpec.ofChange frameOwnSpec)

/-- ITS FALSE NEIGHBOUR: 'it returns false'. Refute it at one input. -/
def frameOwnWrong : ChangeSpec := { name := "frameOwn", fn := fun _ => fun
  | [d1, d2] => { results := [.lit (.bool false)], args := [d1, d2] }
  | _ => none }
def FrameOwnWrongFalsely : Prop := frameOwnRow.holds Tryd.pinned (OpenSpec.ofChange frameOwnWrong)

/-- 'tallysticklaw08.FrameRow': WHATEVER THE INPUT: true; the input reads as it did. -/
def frameRowSpec : ChangeSpec := { name := "frameRow", fn := fun _ => fun
  | [d1, d2, d3] => { results := [.lit (.bool true)], args := [d1, d2, d3] }
  | _ => none }
def frameRowRow : OpenClaim := { program := "ytokiinpegclffaadoor", sum := "180a66dc7409a0bd4fd800f553ab78277a422383fa68ddc104d2505ebdac95ce", func := "tallystick/tallysticklaw08.FrameRow", spec := "frameRow", inPlace := ["internal/bytealg.IndexByte", "internal/bytealg.Index"], named := ["tallystick/hash.start", "tallystick/hash.rounds", "internal/bytealg.MaxLen"], apart := false, laid := [("tallystick/hash.start", laid_tallystick_hash_start), ("tallystick/hash.rounds", laid_tallystick_hash_rounds)] }
def FrameRowSaid : Prop := frameRowRow.holds Tryd.pinned (OpenSpec.ofChange frameRowSpec)

/-- ITS FALSE NEIGHBOUR: 'it returns false'. Refute it at one input. -/
def frameRowWrong : ChangeSpec := { name := "frameRow", fn := fun _ => fun
  | [d1, d2, d3] => { results := [.lit (.bool false)], args := [d1, d2, d3] }
  | _ => none }
def FrameRowWrongFalsely : Prop := frameRowRow.holds Tryd.pinned (OpenSpec.ofChange frameRowWrong)

/-- 'tallysticklaw08.FrameBig': WHATEVER THE INPUT: true; the input reads as it did. -/
def frameBigSpec : ChangeSpec := { name := "frameBig", fn := fun _ => fun
  | [d1, d2] => { results := [.lit (.bool true)], args := [d1, d2] }
  | _ => none }
def frameBigRow : OpenClaim := { program := "ytokiinpegclffaadoor", sum := "180a66dc7409a0bd4fd800f553ab78277a422383fa68ddc104d2505ebdac95ce", func := "tallystick/tallysticklaw08.FrameBig", spec := "frameBig", inPlace := ["internal/bytealg.IndexByte", "internal/bytealg.Index"], named := ["tallystick/hash.start", "tallystick/hash.rounds", "internal/bytealg.MaxLen"], apart := false, laid := [("tallystick/hash.start", laid_tallystick_hash_start), ("tallystick/hash.rounds", laid_tallystick_hash_rounds)] }
def FrameBigSaid : Prop := frameBigRow.holds Tryd.pinned (OpenSpec.ofChange frameBigSpec)

/-- ITS FALSE NEIGHBOUR: 'it returns false'. Refute it at one input. -/
def frameBigWrong : ChangeSpec := { name := "frameBig", fn := fun _ => fun
  | [d1, d2] => { results := [.lit (.bool false)], args := [d1, d2] }
  | _ => none }
def FrameBigWrongFalsely : Prop := frameBigRow.holds Tryd.pinned (OpenSpec.ofChange frameBigWrong)

/-- 'tallysticktop.WholeWords': WHATEVER THE INPUT: true; the input reads as it did. -/
def wholeWordsSpec : ChangeSpec := { name := "wholeWords", fn := fun _ => fun
  | [d1, d2, d3] => { results := [.lit (.bool true)], args := [d1, d2, d3] }
  | _ => none }
def wholeWordsRow : OpenClaim := { program := "ytokiinpegclffaadoor", sum := "180a66dc7409a0bd4fd800f553ab78277a422383fa68ddc104d2505ebdac95ce", func := "tallystick/tallysticktop.WholeWords", spec := "wholeWords", inPlace := ["internal/bytealg.IndexByte", "internal/bytealg.Index"], named := ["tallystick/hash.start", "tallystick/hash.rounds", "internal/bytealg.MaxLen"], apart := false, laid := [("tallystick/hash.start", laid_tallystick_hash_start), ("tallystick/hash.rounds", laid_tallystick_hash_rounds)] }
def WholeWordsSaid : Prop := wholeWordsRow.holds Tryd.pinned (OpenSpec.ofChange wholeWordsSpec)

/-- ITS FALSE NEIGHBOUR: 'it returns false'. Refute it at one input. -/
def wholeWordsWrong : ChangeSpec := { name := "wholeWords", fn := fun _ => fun
  | [d1, d2, d3] => { results := [.lit (.bool false)], args := [d1, d2, d3] }
  | _ => none }
def WholeWordsWrongFalsely : Prop := wholeWordsRow.holds Tryd.pinned (OpenSpec.ofChange wholeWordsWrong)

/- THE SECOND FORM. 'bulk': how many values and letters a reading holds, each counted each time it is reached (what is shared counts as often as it is met; a slice's spare places count too). A statement '..UptoSaid' is the law's where the arguments, and the package variables that the reading takes, are together of bulk at most 1048576: NARROWER than '..Said'. Prove '..Said' where nothing that the law and all that it calls make is longer than what came in: it says more and counts as full. Else prove '..UptoSaid'. A law counts once. -/
mutual
def uptoBulk {H : Type} : DataW H → Nat
  | .lit (.string bytes) => bytes.length + 1
  | .lit _ => 1
  | .nil => 1
  | .ptr d => uptoBulk d + 1
  | .slice elems spare => uptoBulkAll elems + uptoBulkAll spare + 1
  | .agg parts => uptoBulkAll parts + 1
  | .iface _ d => uptoBulk d + 1
  | .map entries => uptoBulkEntries entries + 1
  | .held _ => 1
def uptoBulkAll {H : Type} : List (DataW H) → Nat
  | [] => 0
  | d :: r => uptoBulk d + uptoBulkAll r
def uptoBulkEntries {H : Type} : List (Lit × DataW H) → Nat
  | [] => 0
  | x :: r => uptoBulkEntry x + uptoBulkEntries r
def uptoBulkEntry {H : Type} : Lit × DataW H → Nat
  | (.string bytes, d) => bytes.length + uptoBulk d + 1
  | (_, d) => uptoBulk d + 1
 end
def uptoSmall : (H : Type) → List (DataW H) → Bool := fun _ ds => decide (uptoBulkAll ds ≤ 1048576)
def OpenSpec.upto (s : _root_.Go.ChangeSpec) : _root_.Go.OpenSpec := { _root_.Go.OpenSpec.ofChange s with cond := some uptoSmall }

/-- 'tallysticklaw07.TxApart', WHERE WHAT IT READS IS OF BULK AT MOST 1048576: true; the input reads as it did. -/
def txApartUptoRow : OpenClaim := { program := "ytokiinpegclffaadoor", sum := "180a66dc7409a0bd4fd800f553ab78277a422383fa68ddc104d2505ebdac95ce", func := "tallystick/tallysticklaw07.TxApart", spec := "txApart", named := ["tallystick/hash.start", "tallystick/hash.rounds"], apart := false, laid := [("tallystick/hash.start", laid_tallystick_hash_start), ("tallystick/hash.rounds", laid_tallystick_hash_rounds)], narrowed := true }
def TxApartUptoSaid : Prop := txApartUptoRow.holds Tryd.pinned (OpenSpec.upto txApartSpec)

/-- 'tallysticklaw07.TxOwn', WHERE WHAT IT READS IS OF BULK AT MOST 1048576: true; the input reads as it did. -/
def txOwnUptoRow : OpenClaim := { program := "ytokiinpegclffaadoor", sum := "180a66dc7409a0bd4fd800f553ab78277a422383fa68ddc104d2505ebdac95ce", func := "tallystick/tallysticklaw07.TxOwn", spec := "txOwn", named := ["tallystick/hash.start", "tallystick/hash.rounds"], apart := false, laid := [("tallystick/hash.start", laid_tallystick_hash_start), ("tallystick/hash.rounds", laid_tallystick_hash_rounds)], narrowed := true }
def TxOwnUptoSaid : Prop := txOwnUptoRow.holds Tryd.pinned (OpenSpec.upto txOwnSpec)

/-- 'tallysticklaw07.TxReads', WHERE WHAT IT READS IS OF BULK AT MOST 1048576: true; the input reads as it did. -/
def txReadsUptoRow : OpenClaim := { program := "ytokiinpegclffaadoor", sum := "180a66dc7409a0bd4fd800f553ab78277a422383fa68ddc104d2505ebdac95ce", func := "tallystick/tallysticklaw07.TxReads", spec := "txReads", named := ["tallystick/hash.start", "tallystick/hash.rounds"], apart := false, laid := [("tallystick/hash.start", laid_tallystick_hash_start), ("tallystick/hash.rounds", laid_tallystick_hash_rounds)], narrowed := true }
def TxReadsUptoSaid : Prop := txReadsUptoRow.holds Tryd.pinned (OpenSpec.upto txReadsSpec)

/-- 'tallysticklaw07.TxRoots', WHERE WHAT IT READS IS OF BULK AT MOST 1048576: true; the input reads as it did. -/
def txRootsUptoRow : OpenClaim := { program := "ytokiinpegclffaadoor", sum := "180a66dc7409a0bd4fd800f553ab78277a422383fa68ddc104d2505ebdac95ce", func := "tallystick/tallysticklaw07.TxRoots", spec := "txRoots", recurses := true, named := ["tallystick/hash.start", "tallystick/hash.rounds"], apart := false, laid := [("tallystick/hash.start", laid_tallystick_hash_start), ("tallystick/hash.rounds", laid_tallystick_hash_rounds)], narrowed := true }
def TxRootsUptoSaid : Prop := txRootsUptoRow.holds Tryd.pinned (OpenSpec.upto txRootsSpec)

/-- 'tallysticklaw07.TxCuts', WHERE WHAT IT READS IS OF BULK AT MOST 1048576: true; the input reads as it did. -/
def txCutsUptoRow : OpenClaim := { program := "ytokiinpegclffaadoor", sum := "180a66dc7409a0bd4fd800f553ab78277a422383fa68ddc104d2505ebdac95ce", func := "tallystick/tallysticklaw07.TxCuts", spec := "txCuts", named := ["tallystick/hash.start", "tallystick/hash.rounds"], apart := false, laid := [("tallystick/hash.start", laid_tallystick_hash_start), ("tallystick/hash.rounds", laid_tallystick_hash_rounds)], narrowed := true }
def TxCutsUptoSaid : Prop := txCutsUptoRow.holds Tryd.pinned (OpenSpec.upto txCutsSpec)

/-- 'tallysticklaw07.TxBlocks', WHERE WHAT IT READS IS OF BULK AT MOST 1048576: true; the input reads as it did. -/
def txBlocksUptoRow : OpenClaim := { program := "ytokiinpegclffaadoor", sum := "180a66dc7409a0bd4fd800f553ab78277a422383fa68ddc104d2505ebdac95ce", func := "tallystick/tallysticklaw07.TxBlocks", spec := "txBlocks", named := ["tallystick/hash.start", "tallystick/hash.rounds"], apart := false, laid := [("tallystick/hash.start", laid_tallystick_hash_start), ("tallystick/hash.rounds", laid_tallystick_hash_rounds)], narrowed := true }
def TxBlocksUptoSaid : Prop := txBlocksUptoRow.holds Tryd.pinned (OpenSpec.upto txBlocksSpec)

/-- 'tallysticklaw08.FrameWrites', WHERE WHAT IT READS IS OF BULK AT MOST 1048576: true; the input reads as it did. -/
def frameWritesUptoRow : OpenClaim := { program := "ytokiinpegclffaadoor", sum := "180a66dc7409a0bd4fd800f553ab78277a422383fa68ddc104d2505ebdac95ce", func := "tallystick/tallysticklaw08.FrameWrites", spec := "frameWrites", inPlace := ["internal/bytealg.IndexByte", "internal/bytealg.Index"], named := ["tallystick/hash.start", "tallystick/hash.rounds", "internal/bytealg.MaxLen"], apart := false, laid := [("tallystick/hash.start", laid_tallystick_hash_start), ("tallystick/hash.rounds", laid_tallystick_hash_rounds)], narrowed := true }
def FrameWritesUptoSaid : Prop := frameWritesUptoRow.holds Tryd.pinned (OpenSpec.upto frameWritesSpec)

/-- 'tallysticklaw08.FrameReads', WHERE WHAT IT READS IS OF BULK AT MOST 1048576: true; the input reads as it did. -/
def frameReadsUptoRow : OpenClaim := { program := "ytokiinpegclffaadoor", sum := "180a66dc7409a0bd4fd800f553ab78277a422383fa68ddc104d2505ebdac95ce", func := "tallystick/tallysticklaw08.FrameReads", spec := "frameReads", inPlace := ["internal/bytealg.IndexByte", "internal/bytealg.Index"], named := ["tallystick/hash.start", "tallystick/hash.rounds", "internal/bytealg.MaxLen"], apart := false, laid := [("tallystick/hash.start", laid_tallystick_hash_start), ("tallystick/hash.rounds", laid_tallystick_hash_rounds)], narrowed := true }
def FrameReadsUptoSaid : Prop := frameReadsUptoRow.holds Tryd.pinned (OpenSpec.upto frameReadsSpec)

/-- 'tallysticklaw08.FrameStops', WHERE WHAT IT READS IS OF BULK AT MOST 1048576: true; the input reads as it did. -/
def frameStopsUptoRow : OpenClaim := { program := "ytokiinpegclffaadoor", sum := "180a66dc7409a0bd4fd800f553ab78277a422383fa68ddc104d2505ebdac95ce", func := "tallystick/tallysticklaw08.FrameStops", spec := "frameStops", inPlace := ["internal/bytealg.IndexByte", "internal/bytealg.Index"], named := ["tallystick/hash.start", "tallystick/hash.rounds", "internal/bytealg.MaxLen"], apart := false, laid := [("tallystick/hash.start", laid_tallystick_hash_start), ("tallystick/hash.rounds", laid_tallystick_hash_rounds)], narrowed := true }
def FrameStopsUptoSaid : Prop := frameStopsUptoRow.holds Tryd.pinned (OpenSpec.upto frameStopsSpec)

/-- 'tallysticklaw08.FrameOwn', WHERE WHAT IT READS IS OF BULK AT MOST 1048576: true; the input reads as it did. -/
def frameOwnUptoRow : OpenClaim := { program := "ytokiinpegclffaadoor", sum := "180a66dc7409a0bd4fd800f553ab78277a422383fa68ddc104d2505ebdac95ce", func := "tallystick/tallysticklaw08.FrameOwn", spec := "frameOwn", inPlace := ["internal/bytealg.IndexByte", "internal/bytealg.Index"], named := ["tallystick/hash.start", "tallystick/hash.rounds", "internal/bytealg.MaxLen"], apart := false, laid := [("tallystick/hash.start", laid_tallystick_hash_start), ("tallystick/hash.rounds", laid_tallystick_hash_rounds)], narrowed := true }
def FrameOwnUptoSaid : Prop := frameOwnUptoRow.holds Tryd.pinned (OpenSpec.upto frameOwnSpec)

/-- 'tallysticklaw08.FrameRow', WHERE WHAT IT READS IS OF BULK AT MOST 1048576: true; the input reads as it did. -/
def frameRowUptoRow : OpenClaim := { program := "ytokiinpegclffaadoor", sum := "180a66dc7409a0bd4fd800f553ab78277a422383fa68ddc104d2505ebdac95ce", func := "tallystick/tallysticklaw08.FrameRow", spec := "frameRow", inPlace := ["internal/bytealg.IndexByte", "internal/bytealg.Index"], named := ["tallystick/hash.start", "tallystick/hash.rounds", "internal/bytealg.MaxLen"], apart := false, laid := [("tallystick/hash.start", laid_tallystick_hash_start), ("tallystick/hash.rounds", laid_tallystick_hash_rounds)], narrowed := true }
def FrameRowUptoSaid : Prop := frameRowUptoRow.holds Tryd.pinned (OpenSpec.upto frameRowSpec)

/-- 'tallysticklaw08.FrameBig', WHERE WHAT IT READS IS OF BULK AT MOST 1048576: true; the input reads as it did. -/
def frameBigUptoRow : OpenClaim := { program := "ytokiinpegclffaadoor", sum := "180a66dc7409a0bd4fd800f553ab78277a422383fa68ddc104d2505ebdac95ce", func := "tallystick/tallysticklaw08.FrameBig", spec := "frameBig", inPlace := ["internal/bytealg.IndexByte", "internal/bytealg.Index"], named := ["tallystick/hash.start", "tallystick/hash.rounds", "internal/bytealg.MaxLen"], apart := false, laid := [("tallystick/hash.start", laid_tallystick_hash_start), ("tallystick/hash.rounds", laid_tallystick_hash_rounds)], narrowed := true }
def FrameBigUptoSaid : Prop := frameBigUptoRow.holds Tryd.pinned (OpenSpec.upto frameBigSpec)

/-- 'tallysticktop.WholeWords', WHERE WHAT IT READS IS OF BULK AT MOST 1048576: true; the input reads as it did. -/
def wholeWordsUptoRow : OpenClaim := { program := "ytokiinpegclffaadoor", sum := "180a66dc7409a0bd4fd800f553ab78277a422383fa68ddc104d2505ebdac95ce", func := "tallystick/tallysticktop.WholeWords", spec := "wholeWords", inPlace := ["internal/bytealg.IndexByte", "internal/bytealg.Index"], named := ["tallystick/hash.start", "tallystick/hash.rounds", "internal/bytealg.MaxLen"], apart := false, laid := [("tallystick/hash.start", laid_tallystick_hash_start), ("tallystick/hash.rounds", laid_tallystick_hash_rounds)], narrowed := true }
def WholeWordsUptoSaid : Prop := wholeWordsUptoRow.holds Tryd.pinned (OpenSpec.upto wholeWordsSpec)

end Rows
end Go.Proofs.YtokiinpegclffaaDoor
