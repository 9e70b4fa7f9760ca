/-
  NARROWER THAN 'FOR EVERY INPUT', by the rows' own cells (each row's printed sentence says how): PeerPlays: laid · PeerHonest: laid · PeerSmall: laid · PeerFirst: laid · PeerPieces: laid · PeerClock: laid · WholeManners: laid.
  DERIVED. THE GIVEN ROWS OF THIS SEAT. 7 by the template 'for every input the law returns true; each argument reads behind the call as it read before'; 0 by the template 'total and deterministic' (their statements: YtkpffjcdalclmaaDoorTotals.lean).
  GIVEN WITH THE SEED: the statements are not yours to turn. If you find one false, say at which input.
  Laid BY PROGRAM, IN A SANDBOX (cutbox-rows.mjs): the forced cells as the released guide's own fill.sh prints them over the translation ff4fae19d6ee5079… (all of the seat's roots in one cut). By AI agents, Wed Nov 11 2026. No macro, syntax, notation, axiom, sorry.
-/
import Derived.Test.YtkpffjcdalclmaaDoorChecked
import GoSem.Claim
import GoSem.ClaimJoined
import GoSem.ClaimMapViews
import Derived.JoinedTies
import Derived.KernelRfl
namespace Go.Proofs.YtkpffjcdalclmaaDoor
/- THE CELL 'sum', in the pinned program and in every row, IS THE sha256 OF THE DUMP (.gsa) THAT YtkpffjcdalclmaaDoorProg.lean LOADS. Nothing in Lean hashes anything: it is a label: what it is worth is what the hold of that sum in a sandbox is worth. -/
noncomputable def Tryd.pinned : Pinned := { name := "ytkpffjcdalclmaadoor", sum := "ff4fae19d6ee5079c36223693e0abddffe0ef31f8841d3425a5e332c9095c264", checked := Tryd.checked }
namespace Rows
def none {H : Type} : Left H := { results := [], args := [] }

/- WHAT THE LISTED PACKAGE-LEVEL VARIABLES READ AS WHEN THE CALL BEGINS. Each datum BY PROGRAM (the guide's laid-datum.mjs) off the statement by which the dump's own 'gosem.cut.vars' lays the variable. In a bare row this is a premise. The card (YtkpffjcdalclmaaDoorCards.lean) ties it to the program's text. -/
def laid_tallystick_hash_start {H : Type} : DataW H := .agg [.lit (.int .u32 1779033703), .lit (.int .u32 3144134277), .lit (.int .u32 1013904242), .lit (.int .u32 2773480762), .lit (.int .u32 1359893119), .lit (.int .u32 2600822924), .lit (.int .u32 528734635), .lit (.int .u32 1541459225)]
def laid_tallystick_hash_rounds {H : Type} : DataW H := .agg [.lit (.int .u32 1116352408), .lit (.int .u32 1899447441), .lit (.int .u32 3049323471), .lit (.int .u32 3921009573), .lit (.int .u32 961987163), .lit (.int .u32 1508970993), .lit (.int .u32 2453635748), .lit (.int .u32 2870763221), .lit (.int .u32 3624381080), .lit (.int .u32 310598401), .lit (.int .u32 607225278), .lit (.int .u32 1426881987), .lit (.int .u32 1925078388), .lit (.int .u32 2162078206), .lit (.int .u32 2614888103), .lit (.int .u32 3248222580), .lit (.int .u32 3835390401), .lit (.int .u32 4022224774), .lit (.int .u32 264347078), .lit (.int .u32 604807628), .lit (.int .u32 770255983), .lit (.int .u32 1249150122), .lit (.int .u32 1555081692), .lit (.int .u32 1996064986), .lit (.int .u32 2554220882), .lit (.int .u32 2821834349), .lit (.int .u32 2952996808), .lit (.int .u32 3210313671), .lit (.int .u32 3336571891), .lit (.int .u32 3584528711), .lit (.int .u32 113926993), .lit (.int .u32 338241895), .lit (.int .u32 666307205), .lit (.int .u32 773529912), .lit (.int .u32 1294757372), .lit (.int .u32 1396182291), .lit (.int .u32 1695183700), .lit (.int .u32 1986661051), .lit (.int .u32 2177026350), .lit (.int .u32 2456956037), .lit (.int .u32 2730485921), .lit (.int .u32 2820302411), .lit (.int .u32 3259730800), .lit (.int .u32 3345764771), .lit (.int .u32 3516065817), .lit (.int .u32 3600352804), .lit (.int .u32 4094571909), .lit (.int .u32 275423344), .lit (.int .u32 430227734), .lit (.int .u32 506948616), .lit (.int .u32 659060556), .lit (.int .u32 883997877), .lit (.int .u32 958139571), .lit (.int .u32 1322822218), .lit (.int .u32 1537002063), .lit (.int .u32 1747873779), .lit (.int .u32 1955562222), .lit (.int .u32 2024104815), .lit (.int .u32 2227730452), .lit (.int .u32 2361852424), .lit (.int .u32 2428436474), .lit (.int .u32 2756734187), .lit (.int .u32 3204031479), .lit (.int .u32 3329325298)]
def laid_tallystick_msg_words {H : Type} : DataW H := .agg [.lit (.string []), .lit (.string [118, 101, 114, 115, 105, 111, 110]), .lit (.string [118, 101, 114, 97, 99, 107]), .lit (.string [103, 101, 116, 104, 101, 97, 100, 101, 114, 115]), .lit (.string [104, 101, 97, 100, 101, 114, 115]), .lit (.string [105, 110, 118]), .lit (.string [103, 101, 116, 100, 97, 116, 97]), .lit (.string [98, 108, 111, 99, 107]), .lit (.string [110, 111, 116, 102, 111, 117, 110, 100]), .lit (.string [112, 105, 110, 103]), .lit (.string [112, 111, 110, 103])]

/-- 'tallysticklaw16.PeerPlays': WHATEVER THE INPUT: true; the input reads as it did. -/
def peerPlaysSpec : ChangeSpec := { name := "peerPlays", fn := fun _ => fun
  | [d1, d2] => { results := [.lit (.bool true)], args := [d1, d2] }
  | _ => none }
def peerPlaysRow : OpenClaim := { program := "ytkpffjcdalclmaadoor", sum := "ff4fae19d6ee5079c36223693e0abddffe0ef31f8841d3425a5e332c9095c264", func := "tallystick/tallysticklaw16.PeerPlays", spec := "peerPlays", inPlace := ["internal/bytealg.IndexByte", "internal/bytealg.Index"], named := ["tallystick/msg.words", "tallystick/hash.start", "tallystick/hash.rounds", "internal/bytealg.MaxLen"], apart := false, laid := [("tallystick/hash.start", laid_tallystick_hash_start), ("tallystick/hash.rounds", laid_tallystick_hash_rounds), ("tallystick/msg.words", laid_tallystick_msg_words)] }
def PeerPlaysSaid : Prop := peerPlaysRow.holds Tryd.pinned (OpenSpec.ofChange peerPlaysSpec)

/-- ITS FALSE NEIGHBOUR: 'it returns false'. Refute it at one input. -/
def peerPlaysWrong : ChangeSpec := { name := "peerPlays", fn := fun _ => fun
  | [d1, d2] => { results := [.lit (.bool false)], args := [d1, d2] }
  | _ => none }
def PeerPlaysWrongFalsely : Prop := peerPlaysRow.holds Tryd.pinned (OpenSpec.ofChange peerPlaysWrong)

/-- 'tallysticklaw16.PeerHonest': WHATEVER THE INPUT: true; the input reads as it did. -/
def peerHonestSpec : ChangeSpec := { name := "peerHonest", fn := fun _ => fun
  | [d1, d2] => { results := [.lit (.bool true)], args := [d1, d2] }
  | _ => none }
def peerHonestRow : OpenClaim := { program := "ytkpffjcdalclmaadoor", sum := "ff4fae19d6ee5079c36223693e0abddffe0ef31f8841d3425a5e332c9095c264", func := "tallystick/tallysticklaw16.PeerHonest", spec := "peerHonest", inPlace := ["internal/bytealg.IndexByte", "internal/bytealg.Index"], named := ["tallystick/msg.words", "tallystick/hash.start", "tallystick/hash.rounds", "internal/bytealg.MaxLen"], apart := false, laid := [("tallystick/hash.start", laid_tallystick_hash_start), ("tallystick/hash.rounds", laid_tallystick_hash_rounds), ("tallystick/msg.words", laid_tallystick_msg_words)] }
def PeerHonestSaid : Prop := peerHonestRow.holds Tryd.pinned (OpenSpec.ofChange peerHonestSpec)

/-- ITS FALSE NEIGHBOUR: 'it returns false'. Refute it at one input. -/
def peerHonestWrong : ChangeSpec := { name := "peerHonest", fn := fun _ => fun
  | [d1, d2] => { results := [.lit (.bool false)], args := [d1, d2] }
  | _ => none }
def PeerHonestWrongFalsely : Prop := peerHonestRow.holds Tryd.pinned (OpenSpec.ofChange peerHonestWrong)

/-- 'tallysticklaw16.PeerSmall': WHATEVER THE INPUT: true; the input reads as it did. -/
def peerSmallSpec : ChangeSpec := { name := "peerSmall", fn := fun _ => fun
  | [d] => { results := [.lit (.bool true)], args := [d] }
  | _ => none }
def peerSmallRow : OpenClaim := { program := "ytkpffjcdalclmaadoor", sum := "ff4fae19d6ee5079c36223693e0abddffe0ef31f8841d3425a5e332c9095c264", func := "tallystick/tallysticklaw16.PeerSmall", spec := "peerSmall", inPlace := ["internal/bytealg.IndexByte", "internal/bytealg.Index"], named := ["tallystick/msg.words", "tallystick/hash.start", "tallystick/hash.rounds", "internal/bytealg.MaxLen"], apart := false, laid := [("tallystick/hash.start", laid_tallystick_hash_start), ("tallystick/hash.rounds", laid_tallystick_hash_rounds), ("tallystick/msg.words", laid_tallystick_msg_words)] }
def PeerSmallSaid : Prop := peerSmallRow.holds Tryd.pinned (OpenSpec.ofChange peerSmallSpec)

/-- ITS FALSE NEIGHBOUR: 'it returns false'. Refute it at one input. -/
def peerSmallWrong : ChangeSpec := { name := "peerSmall", fn := fun _ => fun
  | [d] => { results := [.lit (.bool false)], args := [d] }
  | _ => none }
def PeerSmallWrongFalsely : Prop := peerSmallRow.holds Tryd.pinned (OpenSpec.ofChange peerSmallWrong)

/-- 'tallysticklaw16.PeerFirst': WHATEVER THE INPUT: true; the input reads as it did. -/
def peerFirstSpec : ChangeSpec := { name := "peerFirst", fn := fun _ => fun
  | [d] => { results := [.lit (.bool true)], args := [d] }
  | _ => none }
def peerFirstRow : OpenClaim := { program := "ytkpffjcdalclmaadoor", sum := "ff4fae19d6ee5079c36223693e0abddffe0ef31f8841d3425a5e332c9095c264", func := "tallystick/tallysticklaw16.PeerFirst", spec := "peerFirst", inPlace := ["internal/bytealg.IndexByte", "internal/bytealg.Index"], named := ["tallystick/msg.words", "tallystick/hash.start", "tallystick/hash.rounds", "internal/bytealg.MaxLen"], apart := false, laid := [("tallystick/hash.start", laid_tallystick_hash_start), ("tallystick/hash.rounds", laid_tallystick_hash_rounds), ("tallystick/msg.words", laid_tallystick_msg_words)] }
def PeerFirstSaid : Prop := peerFirstRow.holds Tryd.pinned (OpenSpec.ofChange peerFirstSpec)

/-- ITS FALSE NEIGHBOUR: 'it returns false'. Refute it at one input. -/
def peerFirstWrong : ChangeSpec := { name := "peerFirst", fn := fun _ => fun
  | [d] => { results := [.lit (.bool false)], args := [d] }
  | _ => none }
def PeerFirstWrongFalsely : Prop := peerFirstRow.holds Tryd.pinned (OpenSpec.ofChange peerFirstWrong)

/-- 'tallysticklaw16.PeerPieces': WHATEVER THE INPUT: true; the input reads as it did. -/
def peerPiecesSpec : ChangeSpec := { name := "peerPieces", fn := fun _ => fun
  | [d1, d2] => { results := [.lit (.bool true)], args := [d1, d2] }
  | _ => none }
def peerPiecesRow : OpenClaim := { program := "ytkpffjcdalclmaadoor", sum := "ff4fae19d6ee5079c36223693e0abddffe0ef31f8841d3425a5e332c9095c264", func := "tallystick/tallysticklaw16.PeerPieces", spec := "peerPieces", inPlace := ["internal/bytealg.IndexByte", "internal/bytealg.Index"], named := ["tallystick/msg.words", "tallystick/hash.start", "tallystick/hash.rounds", "internal/bytealg.MaxLen"], apart := false, laid := [("tallystick/hash.start", laid_tallystick_hash_start), ("tallystick/hash.rounds", laid_tallystick_hash_rounds), ("tallystick/msg.words", laid_tallystick_msg_words)] }
def PeerPiecesSaid : Prop := peerPiecesRow.holds Tryd.pinned (OpenSpec.ofChange peerPiecesSpec)

/-- ITS FALSE NEIGHBOUR: 'it returns false'. Refute it at one input. -/
def peerPiecesWrong : ChangeSpec := { name := "peerPieces", fn := fun _ => fun
  | [d1, d2] => { results := [.lit (.bool false)], args := [d1, d2] }
  | _ => none }
def PeerPiecesWrongFalsely : Prop := peerPiecesRow.holds Tryd.pinned (OpenSpec.ofChange peerPiecesWrong)

/-- 'tallysticklaw16.PeerClock': WHATEVER THE INPUT: true; the input reads as it did. -/
def peerClockSpec : ChangeSpec := { name := "peerClock", fn := fun _ => fun
  | [d1, d2] => { results := [.lit (.bool true)], args := [d1, d2] }
  | _ => none }
def peerClockRow : OpenClaim := { program := "ytkpffjcdalclmaadoor", sum := "ff4fae19d6ee5079c36223693e0abddffe0ef31f8841d3425a5e332c9095c264", func := "tallystick/tallysticklaw16.PeerClock", spec := "peerClock", inPlace := ["internal/bytealg.IndexByte", "internal/bytealg.Index"], named := ["tallystick/msg.words", "tallystick/hash.start", "tallystick/hash.rounds", "internal/bytealg.MaxLen"], apart := false, laid := [("tallystick/hash.start", laid_tallystick_hash_start), ("tallystick/hash.rounds", laid_tallystick_hash_rounds), ("tallystick/msg.words", laid_tallystick_msg_words)] }
def PeerClockSaid : Prop := peerClockRow.holds Tryd.pinned (OpenSpec.ofChange peerClockSpec)

/-- ITS FALSE NEIGHBOUR: 'it returns false'. Refute it at one input. -/
def peerClockWrong : ChangeSpec := { name := "peerClock", fn := fun _ => fun
  | [d1, d2] => { results := [.lit (.bool false)], args := [d1, d2] }
  | _ => none }
def PeerClockWrongFalsely : Prop := peerClockRow.holds Tryd.pinned (OpenSpec.ofChange peerClockWrong)

/-- 'tallysticktop.WholeManners': WHATEVER THE INPUT: true; the input reads as it did. -/
def wholeMannersSpec : ChangeSpec := { name := "wholeManners", fn := fun _ => fun
  | [d1, d2] => { results := [.lit (.bool true)], args := [d1, d2] }
  | _ => none }
def wholeMannersRow : OpenClaim := { program := "ytkpffjcdalclmaadoor", sum := "ff4fae19d6ee5079c36223693e0abddffe0ef31f8841d3425a5e332c9095c264", func := "tallystick/tallysticktop.WholeManners", spec := "wholeManners", inPlace := ["internal/bytealg.IndexByte", "internal/bytealg.Index"], unfollowed := true, recurses := true, named := ["tallystick/msg.words", "tallystick/hash.start", "tallystick/hash.rounds", "internal/bytealg.MaxLen"], apart := false, laid := [("tallystick/hash.start", laid_tallystick_hash_start), ("tallystick/hash.rounds", laid_tallystick_hash_rounds), ("tallystick/msg.words", laid_tallystick_msg_words)] }
def WholeMannersSaid : Prop := wholeMannersRow.holds Tryd.pinned (OpenSpec.ofChange wholeMannersSpec)

/-- ITS FALSE NEIGHBOUR: 'it returns false'. Refute it at one input. -/
def wholeMannersWrong : ChangeSpec := { name := "wholeManners", fn := fun _ => fun
  | [d1, d2] => { results := [.lit (.bool false)], args := [d1, d2] }
  | _ => none }
def WholeMannersWrongFalsely : Prop := wholeMannersRow.holds Tryd.pinned (OpenSpec.ofChange wholeMannersWrong)

/- THE SECOND FORM. 'bulk': how many values and letters a reading holds, each counted each time it is reached (what is shared counts as often as it is met; a slice's spare places count too). A statement '..UptoSaid' is the law's where the arguments, and the package variables that the reading takes, are together of bulk at most 1048576: NARROWER than '..Said'. Prove '..Said' where nothing that the law and all that it calls make is longer than what came in: it says more and counts as full. Else prove '..UptoSaid'. A law counts once. -/
mutual
def uptoBulk {H : Type} : DataW H → Nat
  | .lit (.string bytes) => bytes.length + 1
  | .lit _ => 1
  | .nil => 1
  | .ptr d => uptoBulk d + 1
  | .slice elems spare => uptoBulkAll elems + uptoBulkAll spare + 1
  | .agg parts => uptoBulkAll parts + 1
  | .iface _ d => uptoBulk d + 1
  | .map entries => uptoBulkEntries entries + 1
  | .held _ => 1
def uptoBulkAll {H : Type} : List (DataW H) → Nat
  | [] => 0
  | d :: r => uptoBulk d + uptoBulkAll r
def uptoBulkEntries {H : Type} : List (Lit × DataW H) → Nat
  | [] => 0
  | x :: r => uptoBulkEntry x + uptoBulkEntries r
def uptoBulkEntry {H : Type} : Lit × DataW H → Nat
  | (.string bytes, d) => bytes.length + uptoBulk d + 1
  | (_, d) => uptoBulk d + 1
 end
def uptoSmall : (H : Type) → List (DataW H) → Bool := fun _ ds => decide (uptoBulkAll ds ≤ 1048576)
def OpenSpec.upto (s : _root_.Go.ChangeSpec) : _root_.Go.OpenSpec := { _root_.Go.OpenSpec.ofChange s with cond := some uptoSmall }

/-- 'tallysticklaw16.PeerPlays', WHERE WHAT IT READS IS OF BULK AT MOST 1048576: true; the input reads as it did. -/
def peerPlaysUptoRow : OpenClaim := { program := "ytkpffjcdalclmaadoor", sum := "ff4fae19d6ee5079c36223693e0abddffe0ef31f8841d3425a5e332c9095c264", func := "tallystick/tallysticklaw16.PeerPlays", spec := "peerPlays", inPlace := ["internal/bytealg.IndexByte", "internal/bytealg.Index"], named := ["tallystick/msg.words", "tallystick/hash.start", "tallystick/hash.rounds", "internal/bytealg.MaxLen"], apart := false, laid := [("tallystick/hash.start", laid_tallystick_hash_start), ("tallystick/hash.rounds", laid_tallystick_hash_rounds), ("tallystick/msg.words", laid_tallystick_msg_words)], narrowed := true }
def PeerPlaysUptoSaid : Prop := peerPlaysUptoRow.holds Tryd.pinned (OpenSpec.upto peerPlaysSpec)

/-- 'tallysticklaw16.PeerHonest', WHERE WHAT IT READS IS OF BULK AT MOST 1048576: true; the input reads as it did. -/
def peerHonestUptoRow : OpenClaim := { program := "ytkpffjcdalclmaadoor", sum := "ff4fae19d6ee5079c36223693e0abddffe0ef31f8841d3425a5e332c9095c264", func := "tallystick/tallysticklaw16.PeerHonest", spec := "peerHonest", inPlace := ["internal/bytealg.IndexByte", "internal/bytealg.Index"], named := ["tallystick/msg.words", "tallystick/hash.start", "tallystick/hash.rounds", "internal/bytealg.MaxLen"], apart := false, laid := [("tallystick/hash.start", laid_tallystick_hash_start), ("tallystick/hash.rounds", laid_tallystick_hash_rounds), ("tallystick/msg.words", laid_tallystick_msg_words)], narrowed := true }
def PeerHonestUptoSaid : Prop := peerHonestUptoRow.holds Tryd.pinned (OpenSpec.upto peerHonestSpec)

/-- 'tallysticklaw16.PeerSmall', WHERE WHAT IT READS IS OF BULK AT MOST 1048576: true; the input reads as it did. -/
def peerSmallUptoRow : OpenClaim := { program := "ytkpffjcdalclmaadoor", sum := "ff4fae19d6ee5079c36223693e0abddffe0ef31f8841d3425a5e332c9095c264", func := "tallystick/tallysticklaw16.PeerSmall", spec := "peerSmall", inPlace := ["internal/bytealg.IndexByte", "internal/bytealg.Index"], named := ["tallystick/msg.words", "tallystick/hash.start", "tallystick/hash.rounds", "internal/bytealg.MaxLen"], apart := false, laid := [("tallystick/hash.start", laid_tallystick_hash_start), ("tallystick/hash.rounds", laid_tallystick_hash_rounds), ("tallystick/msg.words", laid_tallystick_msg_words)], narrowed := true }
def PeerSmallUptoSaid : Prop := peerSmallUptoRow.holds Tryd.pinned (OpenSpec.upto peerSmallSpec)

/-- 'tallysticklaw16.PeerFirst', WHERE WHAT IT READS IS OF BULK AT MOST 1048576: true; the input reads as it did. -/
def peerFirstUptoRow : OpenClaim := { program := "ytkpffjcdalclmaadoor", sum := "ff4fae19d6ee5079c36223693e0abddffe0ef31f8841d3425a5e332c9095c264", func := "tallystick/tallysticklaw16.PeerFirst", spec := "peerFirst", inPlace := ["internal/bytealg.IndexByte", "internal/bytealg.Index"], named := ["tallystick/msg.words", "tallystick/hash.start", "tallystick/hash.rounds", "internal/bytealg.MaxLen"], apart := false, laid := [("tallystick/hash.start", laid_tallystick_hash_start), ("tallystick/hash.rounds", laid_tallystick_hash_rounds), ("tallystick/msg.words", laid_tallystick_msg_words)], narrowed := true }
def PeerFirstUptoSaid : Prop := peerFirstUptoRow.holds Tryd.pinned (OpenSpec.upto peerFirstSpec)

/-- 'tallysticklaw16.PeerPieces', WHERE WHAT IT READS IS OF BULK AT MOST 1048576: true; the input reads as it did. -/
def peerPiecesUptoRow : OpenClaim := { program := "ytkpffjcdalclmaadoor", sum := "ff4fae19d6ee5079c36223693e0abddffe0ef31f8841d3425a5e332c9095c264", func := "tallystick/tallysticklaw16.PeerPieces", spec := "peerPieces", inPlace := ["internal/bytealg.IndexByte", "internal/bytealg.Index"], named := ["tallystick/msg.words", "tallystick/hash.start", "tallystick/hash.rounds", "internal/bytealg.MaxLen"], apart := false, laid := [("tallystick/hash.start", laid_tallystick_hash_start), ("tallystick/hash.rounds", laid_tallystick_hash_rounds), ("tallystick/msg.words", laid_tallystick_msg_words)], narrowed := true }
def PeerPiecesUptoSaid : Prop := peerPiecesUptoRow.holds Tryd.pinned (OpenSpec.upto peerPiecesSpec)

/-- 'tallysticklaw16.PeerClock', WHERE WHAT IT READS IS OF BULK AT MOST 1048576: true; the input reads as it did. -/
def peerClockUptoRow : OpenClaim := { program := "ytkpffjcdalclmaadoor", sum := "ff4fae19d6ee5079c36223693e0abddffe0ef31f8841d3425a5e332c9095c264", func := "tallystick/tallysticklaw16.PeerClock", spec := "peerClock", inPlace := ["internal/bytealg.IndexByte", "internal/bytealg.Index"], named := ["tallystick/msg.words", "tallystick/hash.start", "tallystick/hash.rounds", "internal/bytealg.MaxLen"], apart := false, laid := [("tallystick/hash.start", laid_tallystick_hash_start), ("tallystick/hash.rounds", laid_tallystick_hash_rounds), ("tallystick/msg.words", laid_tallystick_msg_words)], narrowed := true }
def PeerClockUptoSaid : Prop := peerClockUptoRow.holds Tryd.pinned (OpenSpec.upto peerClockSpec)

/-- 'tallysticktop.WholeManners', WHERE WHAT IT READS IS OF BULK AT MOST 1048576: true; the input reads as it did. -/
def wholeMannersUptoRow : OpenClaim := { program := "ytkpffjcdalclmaadoor", sum := "ff4fae19d6ee5079c36223693e0abddffe0ef31f8841d3425a5e332c9095c264", func := "tallystick/tallysticktop.WholeManners", spec := "wholeManners", inPlace := ["internal/bytealg.IndexByte", "internal/bytealg.Index"], unfollowed := true, recurses := true, named := ["tallystick/msg.words", "tallystick/hash.start", "tallystick/hash.rounds", "internal/bytealg.MaxLen"], apart := false, laid := [("tallystick/hash.start", laid_tallystick_hash_start), ("tallystick/hash.rounds", laid_tallystick_hash_rounds), ("tallystick/msg.words", laid_tallystick_msg_words)], narrowed := true }
def WholeMannersUptoSaid : Prop := wholeMannersUptoRow.holds Tryd.pinned (OpenSpec.upto wholeMannersSpec)

end Rows
end Go.Proofs.YtkpffjcdalclmaaDoor
