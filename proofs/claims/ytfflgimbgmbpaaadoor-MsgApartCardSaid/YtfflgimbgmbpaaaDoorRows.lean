/-
  NARROWER THAN 'FOR EVERY INPUT', by the rows' own cells (each row's printed sentence says how): WholeBlocks: laid · MsgLimits: laid · MsgBlocks: laid · MsgAll: laid · MsgApart: laid · MsgWrites: laid · WholeSpoken: laid · CheckMoney: laid · CheckOrder: laid.
  DERIVED. THE GIVEN ROWS OF THIS SEAT. 9 by the template 'for every input the law returns true; each argument reads behind the call as it read before'; 0 by the template 'total and deterministic' (their statements: YtfflgimbgmbpaaaDoorTotals.lean).
  GIVEN WITH THE SEED: the statements are not yours to turn. If you find one false, say at which input.
  Laid BY PROGRAM, IN A SANDBOX (cutbox-rows.mjs): the forced cells as the released guide's own fill.sh prints them over the translation 0007457905b80f64… (all of the seat's roots in one cut). By AI agents, Wed Nov 11 2026. No macro, syntax, notation, axiom, sorry.
-/
import Derived.Test.YtfflgimbgmbpaaaDoorChecked
import GoSem.Claim
import GoSem.ClaimJoined
import GoSem.ClaimMapViews
import Derived.JoinedTies
import Derived.KernelRfl
namespace Go.Proofs.YtfflgimbgmbpaaaDoor
/- THE CELL 'sum', in the pinned program and in every row, IS THE sha256 OF THE DUMP (.gsa) THAT YtfflgimbgmbpaaaDoorProg.lean LOADS. Nothing in Lean hashes anything: it is a label: what it is worth is what the hold of that sum in a sandbox is worth. -/
noncomputable def Tryd.pinned : Pinned := { name := "ytfflgimbgmbpaaadoor", sum := "0007457905b80f644ec2b7e44c67e7dbc9bfb4d20e45f1d2408b2a68aed74527", checked := Tryd.checked }
namespace Rows
def none {H : Type} : Left H := { results := [], args := [] }

/- WHAT THE LISTED PACKAGE-LEVEL VARIABLES READ AS WHEN THE CALL BEGINS. Each datum BY PROGRAM (the guide's laid-datum.mjs) off the statement by which the dump's own 'gosem.cut.vars' lays the variable. In a bare row this is a premise. The card (YtfflgimbgmbpaaaDoorCards.lean) ties it to the program's text. -/
def laid_tallystick_hash_start {H : Type} : DataW H := .agg [.lit (.int .u32 1779033703), .lit (.int .u32 3144134277), .lit (.int .u32 1013904242), .lit (.int .u32 2773480762), .lit (.int .u32 1359893119), .lit (.int .u32 2600822924), .lit (.int .u32 528734635), .lit (.int .u32 1541459225)]
def laid_tallystick_hash_rounds {H : Type} : DataW H := .agg [.lit (.int .u32 1116352408), .lit (.int .u32 1899447441), .lit (.int .u32 3049323471), .lit (.int .u32 3921009573), .lit (.int .u32 961987163), .lit (.int .u32 1508970993), .lit (.int .u32 2453635748), .lit (.int .u32 2870763221), .lit (.int .u32 3624381080), .lit (.int .u32 310598401), .lit (.int .u32 607225278), .lit (.int .u32 1426881987), .lit (.int .u32 1925078388), .lit (.int .u32 2162078206), .lit (.int .u32 2614888103), .lit (.int .u32 3248222580), .lit (.int .u32 3835390401), .lit (.int .u32 4022224774), .lit (.int .u32 264347078), .lit (.int .u32 604807628), .lit (.int .u32 770255983), .lit (.int .u32 1249150122), .lit (.int .u32 1555081692), .lit (.int .u32 1996064986), .lit (.int .u32 2554220882), .lit (.int .u32 2821834349), .lit (.int .u32 2952996808), .lit (.int .u32 3210313671), .lit (.int .u32 3336571891), .lit (.int .u32 3584528711), .lit (.int .u32 113926993), .lit (.int .u32 338241895), .lit (.int .u32 666307205), .lit (.int .u32 773529912), .lit (.int .u32 1294757372), .lit (.int .u32 1396182291), .lit (.int .u32 1695183700), .lit (.int .u32 1986661051), .lit (.int .u32 2177026350), .lit (.int .u32 2456956037), .lit (.int .u32 2730485921), .lit (.int .u32 2820302411), .lit (.int .u32 3259730800), .lit (.int .u32 3345764771), .lit (.int .u32 3516065817), .lit (.int .u32 3600352804), .lit (.int .u32 4094571909), .lit (.int .u32 275423344), .lit (.int .u32 430227734), .lit (.int .u32 506948616), .lit (.int .u32 659060556), .lit (.int .u32 883997877), .lit (.int .u32 958139571), .lit (.int .u32 1322822218), .lit (.int .u32 1537002063), .lit (.int .u32 1747873779), .lit (.int .u32 1955562222), .lit (.int .u32 2024104815), .lit (.int .u32 2227730452), .lit (.int .u32 2361852424), .lit (.int .u32 2428436474), .lit (.int .u32 2756734187), .lit (.int .u32 3204031479), .lit (.int .u32 3329325298)]
def laid_tallystick_msg_words {H : Type} : DataW H := .agg [.lit (.string []), .lit (.string [118, 101, 114, 115, 105, 111, 110]), .lit (.string [118, 101, 114, 97, 99, 107]), .lit (.string [103, 101, 116, 104, 101, 97, 100, 101, 114, 115]), .lit (.string [104, 101, 97, 100, 101, 114, 115]), .lit (.string [105, 110, 118]), .lit (.string [103, 101, 116, 100, 97, 116, 97]), .lit (.string [98, 108, 111, 99, 107]), .lit (.string [110, 111, 116, 102, 111, 117, 110, 100]), .lit (.string [112, 105, 110, 103]), .lit (.string [112, 111, 110, 103])]

/-- 'tallysticktop.WholeBlocks': WHATEVER THE INPUT: true; the input reads as it did. -/
def wholeBlocksSpec : ChangeSpec := { name := "wholeBlocks", fn := fun _ => fun
  | [d1, d2] => { results := [.lit (.bool true)], args := [d1, d2] }
  | _ => none }
def wholeBlocksRow : OpenClaim := { program := "ytfflgimbgmbpaaadoor", sum := "0007457905b80f644ec2b7e44c67e7dbc9bfb4d20e45f1d2408b2a68aed74527", func := "tallystick/tallysticktop.WholeBlocks", spec := "wholeBlocks", inPlace := ["math/bits.Sub64"], named := ["tallystick/hash.start", "tallystick/hash.rounds"], plainKeys := false, apart := false, laid := [("tallystick/hash.start", laid_tallystick_hash_start), ("tallystick/hash.rounds", laid_tallystick_hash_rounds)] }
def WholeBlocksSaid : Prop := wholeBlocksRow.holds Tryd.pinned (OpenSpec.ofChange wholeBlocksSpec)

/-- ITS FALSE NEIGHBOUR: 'it returns false'. Refute it at one input. -/
def wholeBlocksWrong : ChangeSpec := { name := "wholeBlocks", fn := fun _ => fun
  | [d1, d2] => { results := [.lit (.bool false)], args := [d1, d2] }
  | _ => none }
def WholeBlocksWrongFalsely : Prop := wholeBlocksRow.holds Tryd.pinned (OpenSpec.ofChange wholeBlocksWrong)

/-- 'tallysticklaw09.MsgLimits': WHATEVER THE INPUT: true; the input reads as it did. -/
def msgLimitsSpec : ChangeSpec := { name := "msgLimits", fn := fun _ => fun
  | [d1, d2] => { results := [.lit (.bool true)], args := [d1, d2] }
  | _ => none }
def msgLimitsRow : OpenClaim := { program := "ytfflgimbgmbpaaadoor", sum := "0007457905b80f644ec2b7e44c67e7dbc9bfb4d20e45f1d2408b2a68aed74527", func := "tallystick/tallysticklaw09.MsgLimits", spec := "msgLimits", inPlace := ["internal/bytealg.IndexByte", "internal/bytealg.Index"], named := ["tallystick/msg.words", "tallystick/hash.start", "tallystick/hash.rounds", "internal/bytealg.MaxLen"], plainKeys := false, apart := false, laid := [("tallystick/hash.start", laid_tallystick_hash_start), ("tallystick/hash.rounds", laid_tallystick_hash_rounds), ("tallystick/msg.words", laid_tallystick_msg_words)] }
def MsgLimitsSaid : Prop := msgLimitsRow.holds Tryd.pinned (OpenSpec.ofChange msgLimitsSpec)

/-- ITS FALSE NEIGHBOUR: 'it returns false'. Refute it at one input. -/
def msgLimitsWrong : ChangeSpec := { name := "msgLimits", fn := fun _ => fun
  | [d1, d2] => { results := [.lit (.bool false)], args := [d1, d2] }
  | _ => none }
def MsgLimitsWrongFalsely : Prop := msgLimitsRow.holds Tryd.pinned (OpenSpec.ofChange msgLimitsWrong)

/-- 'tallysticklaw09.MsgBlocks': WHATEVER THE INPUT: true; the input reads as it did. -/
def msgBlocksSpec : ChangeSpec := { name := "msgBlocks", fn := fun _ => fun
  | [d] => { results := [.lit (.bool true)], args := [d] }
  | _ => none }
def msgBlocksRow : OpenClaim := { program := "ytfflgimbgmbpaaadoor", sum := "0007457905b80f644ec2b7e44c67e7dbc9bfb4d20e45f1d2408b2a68aed74527", func := "tallystick/tallysticklaw09.MsgBlocks", spec := "msgBlocks", inPlace := ["internal/bytealg.IndexByte", "internal/bytealg.Index"], named := ["tallystick/msg.words", "tallystick/hash.start", "tallystick/hash.rounds", "internal/bytealg.MaxLen"], plainKeys := false, apart := false, laid := [("tallystick/hash.start", laid_tallystick_hash_start), ("tallystick/hash.rounds", laid_tallystick_hash_rounds), ("tallystick/msg.words", laid_tallystick_msg_words)] }
def MsgBlocksSaid : Prop := msgBlocksRow.holds Tryd.pinned (OpenSpec.ofChange msgBlocksSpec)

/-- ITS FALSE NEIGHBOUR: 'it returns false'. Refute it at one input. -/
def msgBlocksWrong : ChangeSpec := { name := "msgBlocks", fn := fun _ => fun
  | [d] => { results := [.lit (.bool false)], args := [d] }
  | _ => none }
def MsgBlocksWrongFalsely : Prop := msgBlocksRow.holds Tryd.pinned (OpenSpec.ofChange msgBlocksWrong)

/-- 'tallysticklaw09.MsgAll': WHATEVER THE INPUT: true; the input reads as it did. -/
def msgAllSpec : ChangeSpec := { name := "msgAll", fn := fun _ => fun
  | [d] => { results := [.lit (.bool true)], args := [d] }
  | _ => none }
def msgAllRow : OpenClaim := { program := "ytfflgimbgmbpaaadoor", sum := "0007457905b80f644ec2b7e44c67e7dbc9bfb4d20e45f1d2408b2a68aed74527", func := "tallystick/tallysticklaw09.MsgAll", spec := "msgAll", inPlace := ["internal/bytealg.IndexByte", "internal/bytealg.Index"], named := ["tallystick/msg.words", "tallystick/hash.start", "tallystick/hash.rounds", "internal/bytealg.MaxLen"], plainKeys := false, apart := false, laid := [("tallystick/hash.start", laid_tallystick_hash_start), ("tallystick/hash.rounds", laid_tallystick_hash_rounds), ("tallystick/msg.words", laid_tallystick_msg_words)] }
def MsgAllSaid : Prop := msgAllRow.holds Tryd.pinned (OpenSpec.ofChange msgAllSpec)

/-- ITS FALSE NEIGHBOUR: 'it returns false'. Refute it at one input. -/
def msgAllWrong : ChangeSpec := { name := "msgAll", fn := fun _ => fun
  | [d] => { results := [.lit (.bool false)], args := [d] }
  | _ => none }
def MsgAllWrongFalsely : Prop := msgAllRow.holds Tryd.pinned (OpenSpec.ofChange msgAllWrong)

/-- 'tallysticklaw09.MsgApart': WHATEVER THE INPUT: true; the input reads as it did. -/
def msgApartSpec : ChangeSpec := { name := "msgApart", fn := fun _ => fun
  | [d1, d2] => { results := [.lit (.bool true)], args := [d1, d2] }
  | _ => none }
def msgApartRow : OpenClaim := { program := "ytfflgimbgmbpaaadoor", sum := "0007457905b80f644ec2b7e44c67e7dbc9bfb4d20e45f1d2408b2a68aed74527", func := "tallystick/tallysticklaw09.MsgApart", spec := "msgApart", inPlace := ["internal/bytealg.IndexByte", "internal/bytealg.Index"], named := ["tallystick/msg.words", "tallystick/hash.start", "tallystick/hash.rounds", "internal/bytealg.MaxLen"], plainKeys := false, apart := false, laid := [("tallystick/hash.start", laid_tallystick_hash_start), ("tallystick/hash.rounds", laid_tallystick_hash_rounds), ("tallystick/msg.words", laid_tallystick_msg_words)] }
def MsgApartSaid : Prop := msgApartRow.holds Tryd.pinned (OpenSpec.ofChange msgApartSpec)

/-- ITS FALSE NEIGHBOUR: 'it returns false'. Refute it at one input. -/
def msgApartWrong : ChangeSpec := { name := "msgApart", fn := fun _ => fun
  | [d1, d2] => { results := [.lit (.bool false)], args := [d1, d2] }
  | _ => none }
def MsgApartWrongFalsely : Prop := msgApartRow.holds Tryd.pinned (OpenSpec.ofChange msgApartWrong)

/-- 'tallysticklaw09.MsgWrites': WHATEVER THE INPUT: true; the input reads as it did. -/
def msgWritesSpec : ChangeSpec := { name := "msgWrites", fn := fun _ => fun
  | [d] => { results := [.lit (.bool true)], args := [d] }
  | _ => none }
def msgWritesRow : OpenClaim := { program := "ytfflgimbgmbpaaadoor", sum := "0007457905b80f644ec2b7e44c67e7dbc9bfb4d20e45f1d2408b2a68aed74527", func := "tallystick/tallysticklaw09.MsgWrites", spec := "msgWrites", inPlace := ["internal/bytealg.IndexByte", "internal/bytealg.Index"], named := ["tallystick/msg.words", "tallystick/hash.start", "tallystick/hash.rounds", "internal/bytealg.MaxLen"], plainKeys := false, apart := false, laid := [("tallystick/hash.start", laid_tallystick_hash_start), ("tallystick/hash.rounds", laid_tallystick_hash_rounds), ("tallystick/msg.words", laid_tallystick_msg_words)] }
def MsgWritesSaid : Prop := msgWritesRow.holds Tryd.pinned (OpenSpec.ofChange msgWritesSpec)

/-- ITS FALSE NEIGHBOUR: 'it returns false'. Refute it at one input. -/
def msgWritesWrong : ChangeSpec := { name := "msgWrites", fn := fun _ => fun
  | [d] => { results := [.lit (.bool false)], args := [d] }
  | _ => none }
def MsgWritesWrongFalsely : Prop := msgWritesRow.holds Tryd.pinned (OpenSpec.ofChange msgWritesWrong)

/-- 'tallysticktop.WholeSpoken': WHATEVER THE INPUT: true; the input reads as it did. -/
def wholeSpokenSpec : ChangeSpec := { name := "wholeSpoken", fn := fun _ => fun
  | [d1, d2, d3] => { results := [.lit (.bool true)], args := [d1, d2, d3] }
  | _ => none }
def wholeSpokenRow : OpenClaim := { program := "ytfflgimbgmbpaaadoor", sum := "0007457905b80f644ec2b7e44c67e7dbc9bfb4d20e45f1d2408b2a68aed74527", func := "tallystick/tallysticktop.WholeSpoken", spec := "wholeSpoken", inPlace := ["internal/bytealg.IndexByte", "internal/bytealg.Index"], named := ["tallystick/msg.words", "tallystick/hash.start", "tallystick/hash.rounds", "internal/bytealg.MaxLen"], plainKeys := false, apart := false, laid := [("tallystick/hash.start", laid_tallystick_hash_start), ("tallystick/hash.rounds", laid_tallystick_hash_rounds), ("tallystick/msg.words", laid_tallystick_msg_words)] }
def WholeSpokenSaid : Prop := wholeSpokenRow.holds Tryd.pinned (OpenSpec.ofChange wholeSpokenSpec)

/-- ITS FALSE NEIGHBOUR: 'it returns false'. Refute it at one input. -/
def wholeSpokenWrong : ChangeSpec := { name := "wholeSpoken", fn := fun _ => fun
  | [d1, d2, d3] => { results := [.lit (.bool false)], args := [d1, d2, d3] }
  | _ => none }
def WholeSpokenWrongFalsely : Prop := wholeSpokenRow.holds Tryd.pinned (OpenSpec.ofChange wholeSpokenWrong)

/-- 'tallysticklaw12.CheckMoney': WHATEVER THE INPUT: true; the input reads as it did. -/
def checkMoneySpec : ChangeSpec := { name := "checkMoney", fn := fun _ => fun
  | [d1, d2] => { results := [.lit (.bool true)], args := [d1, d2] }
  | _ => none }
def checkMoneyRow : OpenClaim := { program := "ytfflgimbgmbpaaadoor", sum := "0007457905b80f644ec2b7e44c67e7dbc9bfb4d20e45f1d2408b2a68aed74527", func := "tallystick/tallysticklaw12.CheckMoney", spec := "checkMoney", named := ["tallystick/hash.start", "tallystick/hash.rounds"], plainKeys := false, apart := false, laid := [("tallystick/hash.start", laid_tallystick_hash_start), ("tallystick/hash.rounds", laid_tallystick_hash_rounds)] }
def CheckMoneySaid : Prop := checkMoneyRow.holds Tryd.pinned (OpenSpec.ofChange checkMoneySpec)

/-- ITS FALSE NEIGHBOUR: 'it returns false'. Refute it at one input. -/
def checkMoneyWrong : ChangeSpec := { name := "checkMoney", fn := fun _ => fun
  | [d1, d2] => { results := [.lit (.bool false)], args := [d1, d2] }
  | _ => none }
def CheckMoneyWrongFalsely : Prop := checkMoneyRow.holds Tryd.pinned (OpenSpec.ofChange checkMoneyWrong)

/-- 'tallysticklaw12.CheckOrder': WHATEVER THE INPUT: true; the input reads as it did. -/
def checkOrderSpec : ChangeSpec := { name := "checkOrder", fn := fun _ => fun
  | [d1, d2] => { results := [.lit (.bool true)], args := [d1, d2] }
  | _ => none }
def checkOrderRow : OpenClaim := { program := "ytfflgimbgmbpaaadoor", sum := "0007457905b80f644ec2b7e44c67e7dbc9bfb4d20e45f1d2408b2a68aed74527", func := "tallystick/tallysticklaw12.CheckOrder", spec := "checkOrder", named := ["tallystick/hash.start", "tallystick/hash.rounds"], plainKeys := false, apart := false, laid := [("tallystick/hash.start", laid_tallystick_hash_start), ("tallystick/hash.rounds", laid_tallystick_hash_rounds)] }
def CheckOrderSaid : Prop := checkOrderRow.holds Tryd.pinned (OpenSpec.ofChange checkOrderSpec)

/-- ITS FALSE NEIGHBOUR: 'it returns false'. Refute it at one input. -/
def checkOrderWrong : ChangeSpec := { name := "checkOrder", fn := fun _ => fun
  | [d1, d2] => { results := [.lit (.bool false)], args := [d1, d2] }
  | _ => none }
def CheckOrderWrongFalsely : Prop := checkOrderRow.holds Tryd.pinned (OpenSpec.ofChange checkOrderWrong)

/- THE SECOND FORM. 'bulk': how many values and letters a reading holds, each counted each time it is reached (what is shared counts as often as it is met; a slice's spare places count too). A statement '..UptoSaid' is the law's where the arguments, and the package variables that the reading takes, are together of bulk at most 1048576: NARROWER than '..Said'. Prove '..Said' where nothing that the law and all that it calls make is longer than what came in: it says more and counts as full. Else prove '..UptoSaid'. A law counts once. -/
mutual
def uptoBulk {H : Type} : DataW H → Nat
  | .lit (.string bytes) => bytes.length + 1
  | .lit _ => 1
  | .nil => 1
  | .ptr d => uptoBulk d + 1
  | .slice elems spare => uptoBulkAll elems + uptoBulkAll spare + 1
  | .agg parts => uptoBulkAll parts + 1
  | .iface _ d => uptoBulk d + 1
  | .map entries => uptoBulkEntries entries + 1
  | .held _ => 1
def uptoBulkAll {H : Type} : List (DataW H) → Nat
  | [] => 0
  | d :: r => uptoBulk d + uptoBulkAll r
def uptoBulkEntries {H : Type} : List (Lit × DataW H) → Nat
  | [] => 0
  | x :: r => uptoBulkEntry x + uptoBulkEntries r
def uptoBulkEntry {H : Type} : Lit × DataW H → Nat
  | (.string bytes, d) => bytes.length + uptoBulk d + 1
  | (_, d) => uptoBulk d + 1
 end
def uptoSmall : (H : Type) → List (DataW H) → Bool := fun _ ds => decide (uptoBulkAll ds ≤ 1048576)
def OpenSpec.upto (s : _root_.Go.ChangeSpec) : _root_.Go.OpenSpec := { _root_.Go.OpenSpec.ofChange s with cond := some uptoSmall }

/-- 'tallysticktop.WholeBlocks', WHERE WHAT IT READS IS OF BULK AT MOST 1048576: true; the input reads as it did. -/
def wholeBlocksUptoRow : OpenClaim := { program := "ytfflgimbgmbpaaadoor", sum := "0007457905b80f644ec2b7e44c67e7dbc9bfb4d20e45f1d2408b2a68aed74527", func := "tallystick/tallysticktop.WholeBlocks", spec := "wholeBlocks", inPlace := ["math/bits.Sub64"], named := ["tallystick/hash.start", "tallystick/hash.rounds"], plainKeys := false, apart := false, laid := [("tallystick/hash.start", laid_tallystick_hash_start), ("tallystick/hash.rounds", laid_tallystick_hash_rounds)], narrowed := true }
def WholeBlocksUptoSaid : Prop := wholeBlocksUptoRow.holds Tryd.pinned (OpenSpec.upto wholeBlocksSpec)

/-- 'tallysticklaw09.MsgLimits', WHERE WHAT IT READS IS OF BULK AT MOST 1048576: true; the input reads as it did. -/
def msgLimitsUptoRow : OpenClaim := { program := "ytfflgimbgmbpaaadoor", sum := "0007457905b80f644ec2b7e44c67e7dbc9bfb4d20e45f1d2408b2a68aed74527", func := "tallystick/tallysticklaw09.MsgLimits", spec := "msgLimits", inPlace := ["internal/bytealg.IndexByte", "internal/bytealg.Index"], named := ["tallystick/msg.words", "tallystick/hash.start", "tallystick/hash.rounds", "internal/bytealg.MaxLen"], plainKeys := false, apart := false, laid := [("tallystick/hash.start", laid_tallystick_hash_start), ("tallystick/hash.rounds", laid_tallystick_hash_rounds), ("tallystick/msg.words", laid_tallystick_msg_words)], narrowed := true }
def MsgLimitsUptoSaid : Prop := msgLimitsUptoRow.holds Tryd.pinned (OpenSpec.upto msgLimitsSpec)

/-- 'tallysticklaw09.MsgBlocks', WHERE WHAT IT READS IS OF BULK AT MOST 1048576: true; the input reads as it did. -/
def msgBlocksUptoRow : OpenClaim := { program := "ytfflgimbgmbpaaadoor", sum := "0007457905b80f644ec2b7e44c67e7dbc9bfb4d20e45f1d2408b2a68aed74527", func := "tallystick/tallysticklaw09.MsgBlocks", spec := "msgBlocks", inPlace := ["internal/bytealg.IndexByte", "internal/bytealg.Index"], named := ["tallystick/msg.words", "tallystick/hash.start", "tallystick/hash.rounds", "internal/bytealg.MaxLen"], plainKeys := false, apart := false, laid := [("tallystick/hash.start", laid_tallystick_hash_start), ("tallystick/hash.rounds", laid_tallystick_hash_rounds), ("tallystick/msg.words", laid_tallystick_msg_words)], narrowed := true }
def MsgBlocksUptoSaid : Prop := msgBlocksUptoRow.holds Tryd.pinned (OpenSpec.upto msgBlocksSpec)

/-- 'tallysticklaw09.MsgAll', WHERE WHAT IT READS IS OF BULK AT MOST 1048576: true; the input reads as it did. -/
def msgAllUptoRow : OpenClaim := { program := "ytfflgimbgmbpaaadoor", sum := "0007457905b80f644ec2b7e44c67e7dbc9bfb4d20e45f1d2408b2a68aed74527", func := "tallystick/tallysticklaw09.MsgAll", spec := "msgAll", inPlace := ["internal/bytealg.IndexByte", "internal/bytealg.Index"], named := ["tallystick/msg.words", "tallystick/hash.start", "tallystick/hash.rounds", "internal/bytealg.MaxLen"], plainKeys := false, apart := false, laid := [("tallystick/hash.start", laid_tallystick_hash_start), ("tallystick/hash.rounds", laid_tallystick_hash_rounds), ("tallystick/msg.words", laid_tallystick_msg_words)], narrowed := true }
def MsgAllUptoSaid : Prop := msgAllUptoRow.holds Tryd.pinned (OpenSpec.upto msgAllSpec)

/-- 'tallysticklaw09.MsgApart', WHERE WHAT IT READS IS OF BULK AT MOST 1048576: true; the input reads as it did. -/
def msgApartUptoRow : OpenClaim := { program := "ytfflgimbgmbpaaadoor", sum := "0007457905b80f644ec2b7e44c67e7dbc9bfb4d20e45f1d2408b2a68aed74527", func := "tallystick/tallysticklaw09.MsgApart", spec := "msgApart", inPlace := ["internal/bytealg.IndexByte", "internal/bytealg.Index"], named := ["tallystick/msg.words", "tallystick/hash.start", "tallystick/hash.rounds", "internal/bytealg.MaxLen"], plainKeys := false, apart := false, laid := [("tallystick/hash.start", laid_tallystick_hash_start), ("tallystick/hash.rounds", laid_tallystick_hash_rounds), ("tallystick/msg.words", laid_tallystick_msg_words)], narrowed := true }
def MsgApartUptoSaid : Prop := msgApartUptoRow.holds Tryd.pinned (OpenSpec.upto msgApartSpec)

/-- 'tallysticklaw09.MsgWrites', WHERE WHAT IT READS IS OF BULK AT MOST 1048576: true; the input reads as it did. -/
def msgWritesUptoRow : OpenClaim := { program := "ytfflgimbgmbpaaadoor", sum := "0007457905b80f644ec2b7e44c67e7dbc9bfb4d20e45f1d2408b2a68aed74527", func := "tallystick/tallysticklaw09.MsgWrites", spec := "msgWrites", inPlace := ["internal/bytealg.IndexByte", "internal/bytealg.Index"], named := ["tallystick/msg.words", "tallystick/hash.start", "tallystick/hash.rounds", "internal/bytealg.MaxLen"], plainKeys := false, apart := false, laid := [("tallystick/hash.start", laid_tallystick_hash_start), ("tallystick/hash.rounds", laid_tallystick_hash_rounds), ("tallystick/msg.words", laid_tallystick_msg_words)], narrowed := true }
def MsgWritesUptoSaid : Prop := msgWritesUptoRow.holds Tryd.pinned (OpenSpec.upto msgWritesSpec)

/-- 'tallysticktop.WholeSpoken', WHERE WHAT IT READS IS OF BULK AT MOST 1048576: true; the input reads as it did. -/
def wholeSpokenUptoRow : OpenClaim := { program := "ytfflgimbgmbpaaadoor", sum := "0007457905b80f644ec2b7e44c67e7dbc9bfb4d20e45f1d2408b2a68aed74527", func := "tallystick/tallysticktop.WholeSpoken", spec := "wholeSpoken", inPlace := ["internal/bytealg.IndexByte", "internal/bytealg.Index"], named := ["tallystick/msg.words", "tallystick/hash.start", "tallystick/hash.rounds", "internal/bytealg.MaxLen"], plainKeys := false, apart := false, laid := [("tallystick/hash.start", laid_tallystick_hash_start), ("tallystick/hash.rounds", laid_tallystick_hash_rounds), ("tallystick/msg.words", laid_tallystick_msg_words)], narrowed := true }
def WholeSpokenUptoSaid : Prop := wholeSpokenUptoRow.holds Tryd.pinned (OpenSpec.upto wholeSpokenSpec)

/-- 'tallysticklaw12.CheckMoney', WHERE WHAT IT READS IS OF BULK AT MOST 1048576: true; the input reads as it did. -/
def checkMoneyUptoRow : OpenClaim := { program := "ytfflgimbgmbpaaadoor", sum := "0007457905b80f644ec2b7e44c67e7dbc9bfb4d20e45f1d2408b2a68aed74527", func := "tallystick/tallysticklaw12.CheckMoney", spec := "checkMoney", named := ["tallystick/hash.start", "tallystick/hash.rounds"], plainKeys := false, apart := false, laid := [("tallystick/hash.start", laid_tallystick_hash_start), ("tallystick/hash.rounds", laid_tallystick_hash_rounds)], narrowed := true }
def CheckMoneyUptoSaid : Prop := checkMoneyUptoRow.holds Tryd.pinned (OpenSpec.upto checkMoneySpec)

/-- 'tallysticklaw12.CheckOrder', WHERE WHAT IT READS IS OF BULK AT MOST 1048576: true; the input reads as it did. -/
def checkOrderUptoRow : OpenClaim := { program := "ytfflgimbgmbpaaadoor", sum := "0007457905b80f644ec2b7e44c67e7dbc9bfb4d20e45f1d2408b2a68aed74527", func := "tallystick/tallysticklaw12.CheckOrder", spec := "checkOrder", named := ["tallystick/hash.start", "tallystick/hash.rounds"], plainKeys := false, apart := false, laid := [("tallystick/hash.start", laid_tallystick_hash_start), ("tallystick/hash.rounds", laid_tallystick_hash_rounds)], narrowed := true }
def CheckOrderUptoSaid : Prop := checkOrderUptoRow.holds Tryd.pinned (OpenSpec.upto checkOrderSpec)

end Rows
end Go.Proofs.YtfflgimbgmbpaaaDoor
