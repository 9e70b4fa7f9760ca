/-
  No cell of these rows narrows 'for every input' (looked for: loops, veiled, ifaces, maps, wideKeys, modest, calm, conditions, laid).
  DERIVED. THE GIVEN ROWS OF THIS SEAT. 10 by the template 'for every input the law returns true; each argument reads behind the call as it read before'; 0 by the template 'total and deterministic' (their statements: YtiiaijoafahdmabTotals.lean).
  GIVEN WITH THE SEED: the statements are not yours to turn. If you find one false, say at which input.
  Laid BY PROGRAM, IN A SANDBOX (cutbox-rows.mjs): the forced cells as the released guide's own fill.sh prints them over the translation 76532620aaa12ccc… (all of the seat's roots in one cut). By AI agents, Wed Nov 11 2026. No macro, syntax, notation, axiom, sorry.
-/
import Derived.Test.YtiiaijoafahdmabChecked
import GoSem.Claim
import GoSem.ClaimJoined
import GoSem.ClaimMapViews
import Derived.JoinedTies
import Derived.KernelRfl
namespace Go.Proofs.Ytiiaijoafahdmab
/- THE CELL 'sum', in the pinned program and in every row, IS THE sha256 OF THE DUMP (.gsa) THAT YtiiaijoafahdmabProg.lean LOADS. Nothing in Lean hashes anything: it is a label: what it is worth is what the hold of that sum in a sandbox is worth. -/
noncomputable def Try.pinned : Pinned := { name := "ytiiaijoafahdmab", sum := "76532620aaa12cccc8fb75d83fdc769b8973a9f969700b611f0d40829fadf77e", checked := Try.checked }
namespace Rows
def none {H : Type} : Left H := { results := [], args := [] }

/-- 'tallysticklaw02.NumMany': WHATEVER THE INPUT: true; the input reads as it did. -/
def numManySpec : ChangeSpec := { name := "numMany", fn := fun _ => fun
  | [d] => { results := [.lit (.bool true)], args := [d] }
  | _ => none }
def numManyRow : OpenClaim := { program := "ytiiaijoafahdmab", sum := "76532620aaa12cccc8fb75d83fdc769b8973a9f969700b611f0d40829fadf77e", func := "tallystick/tallysticklaw02.NumMany", spec := "numMany", inPlace := ["math/bits.Add64", "math/bits.Sub64"], apart := false }
def NumManySaid : Prop := numManyRow.holds Try.pinned (OpenSpec.ofChange numManySpec)

/-- ITS FALSE NEIGHBOUR: 'it returns false'. Refute it at one input. -/
def numManyWrong : ChangeSpec := { name := "numMany", fn := fun _ => fun
  | [d] => { results := [.lit (.bool false)], args := [d] }
  | _ => none }
def NumManyWrongFalsely : Prop := numManyRow.holds Try.pinned (OpenSpec.ofChange numManyWrong)

/-- 'tallysticklaw02.NumOrder': WHATEVER THE INPUT: true; the input reads as it did. -/
def numOrderSpec : ChangeSpec := { name := "numOrder", fn := fun _ => fun
  | [d1, d2, d3] => { results := [.lit (.bool true)], args := [d1, d2, d3] }
  | _ => none }
def numOrderRow : OpenClaim := { program := "ytiiaijoafahdmab", sum := "76532620aaa12cccc8fb75d83fdc769b8973a9f969700b611f0d40829fadf77e", func := "tallystick/tallysticklaw02.NumOrder", spec := "numOrder", inPlace := ["math/bits.Add64", "math/bits.Sub64"], apart := false }
def NumOrderSaid : Prop := numOrderRow.holds Try.pinned (OpenSpec.ofChange numOrderSpec)

/-- ITS FALSE NEIGHBOUR: 'it returns false'. Refute it at one input. -/
def numOrderWrong : ChangeSpec := { name := "numOrder", fn := fun _ => fun
  | [d1, d2, d3] => { results := [.lit (.bool false)], args := [d1, d2, d3] }
  | _ => none }
def NumOrderWrongFalsely : Prop := numOrderRow.holds Try.pinned (OpenSpec.ofChange numOrderWrong)

/-- 'tallysticklaw02.NumTimes': WHATEVER THE INPUT: true; the input reads as it did. -/
def numTimesSpec : ChangeSpec := { name := "numTimes", fn := fun _ => fun
  | [d1, d2] => { results := [.lit (.bool true)], args := [d1, d2] }
  | _ => none }
def numTimesRow : OpenClaim := { program := "ytiiaijoafahdmab", sum := "76532620aaa12cccc8fb75d83fdc769b8973a9f969700b611f0d40829fadf77e", func := "tallystick/tallysticklaw02.NumTimes", spec := "numTimes", inPlace := ["math/bits.Add64", "math/bits.Sub64"], apart := false }
def NumTimesSaid : Prop := numTimesRow.holds Try.pinned (OpenSpec.ofChange numTimesSpec)

/-- ITS FALSE NEIGHBOUR: 'it returns false'. Refute it at one input. -/
def numTimesWrong : ChangeSpec := { name := "numTimes", fn := fun _ => fun
  | [d1, d2] => { results := [.lit (.bool false)], args := [d1, d2] }
  | _ => none }
def NumTimesWrongFalsely : Prop := numTimesRow.holds Try.pinned (OpenSpec.ofChange numTimesWrong)

/-- 'tallysticklaw03.BitsMean': WHATEVER THE INPUT: true; the input reads as it did. -/
def bitsMeanSpec : ChangeSpec := { name := "bitsMean", fn := fun _ => fun
  | [d] => { results := [.lit (.bool true)], args := [d] }
  | _ => none }
def bitsMeanRow : OpenClaim := { program := "ytiiaijoafahdmab", sum := "76532620aaa12cccc8fb75d83fdc769b8973a9f969700b611f0d40829fadf77e", func := "tallystick/tallysticklaw03.BitsMean", spec := "bitsMean", inPlace := ["math/bits.Add64", "math/bits.Sub64"], apart := false }
def BitsMeanSaid : Prop := bitsMeanRow.holds Try.pinned (OpenSpec.ofChange bitsMeanSpec)

/-- ITS FALSE NEIGHBOUR: 'it returns false'. Refute it at one input. -/
def bitsMeanWrong : ChangeSpec := { name := "bitsMean", fn := fun _ => fun
  | [d] => { results := [.lit (.bool false)], args := [d] }
  | _ => none }
def BitsMeanWrongFalsely : Prop := bitsMeanRow.holds Try.pinned (OpenSpec.ofChange bitsMeanWrong)

/-- 'tallysticklaw03.BitsShort': WHATEVER THE INPUT: true; the input reads as it did. -/
def bitsShortSpec : ChangeSpec := { name := "bitsShort", fn := fun _ => fun
  | [d] => { results := [.lit (.bool true)], args := [d] }
  | _ => none }
def bitsShortRow : OpenClaim := { program := "ytiiaijoafahdmab", sum := "76532620aaa12cccc8fb75d83fdc769b8973a9f969700b611f0d40829fadf77e", func := "tallystick/tallysticklaw03.BitsShort", spec := "bitsShort", inPlace := ["math/bits.Add64", "math/bits.Sub64"], apart := false }
def BitsShortSaid : Prop := bitsShortRow.holds Try.pinned (OpenSpec.ofChange bitsShortSpec)

/-- ITS FALSE NEIGHBOUR: 'it returns false'. Refute it at one input. -/
def bitsShortWrong : ChangeSpec := { name := "bitsShort", fn := fun _ => fun
  | [d] => { results := [.lit (.bool false)], args := [d] }
  | _ => none }
def BitsShortWrongFalsely : Prop := bitsShortRow.holds Try.pinned (OpenSpec.ofChange bitsShortWrong)

/-- 'tallysticklaw03.BitsNext': WHATEVER THE INPUT: true; the input reads as it did. -/
def bitsNextSpec : ChangeSpec := { name := "bitsNext", fn := fun _ => fun
  | [d1, d2, d3] => { results := [.lit (.bool true)], args := [d1, d2, d3] }
  | _ => none }
def bitsNextRow : OpenClaim := { program := "ytiiaijoafahdmab", sum := "76532620aaa12cccc8fb75d83fdc769b8973a9f969700b611f0d40829fadf77e", func := "tallystick/tallysticklaw03.BitsNext", spec := "bitsNext", inPlace := ["math/bits.Add64", "math/bits.Sub64"], apart := false }
def BitsNextSaid : Prop := bitsNextRow.holds Try.pinned (OpenSpec.ofChange bitsNextSpec)

/-- ITS FALSE NEIGHBOUR: 'it returns false'. Refute it at one input. -/
def bitsNextWrong : ChangeSpec := { name := "bitsNext", fn := fun _ => fun
  | [d1, d2, d3] => { results := [.lit (.bool false)], args := [d1, d2, d3] }
  | _ => none }
def BitsNextWrongFalsely : Prop := bitsNextRow.holds Try.pinned (OpenSpec.ofChange bitsNextWrong)

/-- 'tallysticklaw03.BitsWork': WHATEVER THE INPUT: true; the input reads as it did. -/
def bitsWorkSpec : ChangeSpec := { name := "bitsWork", fn := fun _ => fun
  | [d1, d2] => { results := [.lit (.bool true)], args := [d1, d2] }
  | _ => none }
def bitsWorkRow : OpenClaim := { program := "ytiiaijoafahdmab", sum := "76532620aaa12cccc8fb75d83fdc769b8973a9f969700b611f0d40829fadf77e", func := "tallystick/tallysticklaw03.BitsWork", spec := "bitsWork", inPlace := ["math/bits.Add64", "math/bits.Sub64"], apart := false }
def BitsWorkSaid : Prop := bitsWorkRow.holds Try.pinned (OpenSpec.ofChange bitsWorkSpec)

/-- ITS FALSE NEIGHBOUR: 'it returns false'. Refute it at one input. -/
def bitsWorkWrong : ChangeSpec := { name := "bitsWork", fn := fun _ => fun
  | [d1, d2] => { results := [.lit (.bool false)], args := [d1, d2] }
  | _ => none }
def BitsWorkWrongFalsely : Prop := bitsWorkRow.holds Try.pinned (OpenSpec.ofChange bitsWorkWrong)

/-- 'tallysticklaw03.BitsStays': WHATEVER THE INPUT: true; the input reads as it did. -/
def bitsStaysSpec : ChangeSpec := { name := "bitsStays", fn := fun _ => fun
  | [d1, d2, d3] => { results := [.lit (.bool true)], args := [d1, d2, d3] }
  | _ => none }
def bitsStaysRow : OpenClaim := { program := "ytiiaijoafahdmab", sum := "76532620aaa12cccc8fb75d83fdc769b8973a9f969700b611f0d40829fadf77e", func := "tallystick/tallysticklaw03.BitsStays", spec := "bitsStays", inPlace := ["math/bits.Add64", "math/bits.Sub64"], apart := false }
def BitsStaysSaid : Prop := bitsStaysRow.holds Try.pinned (OpenSpec.ofChange bitsStaysSpec)

/-- ITS FALSE NEIGHBOUR: 'it returns false'. Refute it at one input. -/
def bitsStaysWrong : ChangeSpec := { name := "bitsStays", fn := fun _ => fun
  | [d1, d2, d3] => { results := [.lit (.bool false)], args := [d1, d2, d3] }
  | _ => none }
def BitsStaysWrongFalsely : Prop := bitsStaysRow.holds Try.pinned (OpenSpec.ofChange bitsStaysWrong)

/-- 'tallysticklaw03.BitsOrder': WHATEVER THE INPUT: true; the input reads as it did. -/
def bitsOrderSpec : ChangeSpec := { name := "bitsOrder", fn := fun _ => fun
  | [d1, d2] => { results := [.lit (.bool true)], args := [d1, d2] }
  | _ => none }
def bitsOrderRow : OpenClaim := { program := "ytiiaijoafahdmab", sum := "76532620aaa12cccc8fb75d83fdc769b8973a9f969700b611f0d40829fadf77e", func := "tallystick/tallysticklaw03.BitsOrder", spec := "bitsOrder", inPlace := ["math/bits.Add64", "math/bits.Sub64"], apart := false }
def BitsOrderSaid : Prop := bitsOrderRow.holds Try.pinned (OpenSpec.ofChange bitsOrderSpec)

/-- ITS FALSE NEIGHBOUR: 'it returns false'. Refute it at one input. -/
def bitsOrderWrong : ChangeSpec := { name := "bitsOrder", fn := fun _ => fun
  | [d1, d2] => { results := [.lit (.bool false)], args := [d1, d2] }
  | _ => none }
def BitsOrderWrongFalsely : Prop := bitsOrderRow.holds Try.pinned (OpenSpec.ofChange bitsOrderWrong)

/-- 'tallysticklaw03.BitsLimit': WHATEVER THE INPUT: true; the input reads as it did. -/
def bitsLimitSpec : ChangeSpec := { name := "bitsLimit", fn := fun _ => fun
  | [d1, d2, d3] => { results := [.lit (.bool true)], args := [d1, d2, d3] }
  | _ => none }
def bitsLimitRow : OpenClaim := { program := "ytiiaijoafahdmab", sum := "76532620aaa12cccc8fb75d83fdc769b8973a9f969700b611f0d40829fadf77e", func := "tallystick/tallysticklaw03.BitsLimit", spec := "bitsLimit", inPlace := ["math/bits.Add64", "math/bits.Sub64"], apart := false }
def BitsLimitSaid : Prop := bitsLimitRow.holds Try.pinned (OpenSpec.ofChange bitsLimitSpec)

/-- ITS FALSE NEIGHBOUR: 'it returns false'. Refute it at one input. -/
def bitsLimitWrong : ChangeSpec := { name := "bitsLimit", fn := fun _ => fun
  | [d1, d2, d3] => { results := [.lit (.bool false)], args := [d1, d2, d3] }
  | _ => none }
def BitsLimitWrongFalsely : Prop := bitsLimitRow.holds Try.pinned (OpenSpec.ofChange bitsLimitWrong)

/- THE SECOND FORM. 'bulk': how many values and letters a reading holds, each counted each time it is reached (what is shared counts as often as it is met; a slice's spare places count too). A statement '..UptoSaid' is the law's where the arguments, and the package variables that the reading takes, are together of bulk at most 1048576: NARROWER than '..Said'. Prove '..Said' where nothing that the law and all that it calls make is longer than what came in: it says more and counts as full. Else prove '..UptoSaid'. A law counts once. -/
mutual
def uptoBulk {H : Type} : DataW H → Nat
  | .lit (.string bytes) => bytes.length + 1
  | .lit _ => 1
  | .nil => 1
  | .ptr d => uptoBulk d + 1
  | .slice elems spare => uptoBulkAll elems + uptoBulkAll spare + 1
  | .agg parts => uptoBulkAll parts + 1
  | .iface _ d => uptoBulk d + 1
  | .map entries => uptoBulkEntries entries + 1
  | .held _ => 1
def uptoBulkAll {H : Type} : List (DataW H) → Nat
  | [] => 0
  | d :: r => uptoBulk d + uptoBulkAll r
def uptoBulkEntries {H : Type} : List (Lit × DataW H) → Nat
  | [] => 0
  | x :: r => uptoBulkEntry x + uptoBulkEntries r
def uptoBulkEntry {H : Type} : Lit × DataW H → Nat
  | (.string bytes, d) => bytes.length + uptoBulk d + 1
  | (_, d) => uptoBulk d + 1
 end
def uptoSmall : (H : Type) → List (DataW H) → Bool := fun _ ds => decide (uptoBulkAll ds ≤ 1048576)
def OpenSpec.upto (s : _root_.Go.ChangeSpec) : _root_.Go.OpenSpec := { _root_.Go.OpenSpec.ofChange s with cond := some uptoSmall }

/-- 'tallysticklaw02.NumMany', WHERE WHAT IT READS IS OF BULK AT MOST 1048576: true; the input reads as it did. -/
def numManyUptoRow : OpenClaim := { program := "ytiiaijoafahdmab", sum := "76532620aaa12cccc8fb75d83fdc769b8973a9f969700b611f0d40829fadf77e", func := "tallystick/tallysticklaw02.NumMany", spec := "numMany", inPlace := ["math/bits.Add64", "math/bits.Sub64"], apart := false, narrowed := true }
def NumManyUptoSaid : Prop := numManyUptoRow.holds Try.pinned (OpenSpec.upto numManySpec)

/-- 'tallysticklaw02.NumOrder', WHERE WHAT IT READS IS OF BULK AT MOST 1048576: true; the input reads as it did. -/
def numOrderUptoRow : OpenClaim := { program := "ytiiaijoafahdmab", sum := "76532620aaa12cccc8fb75d83fdc769b8973a9f969700b611f0d40829fadf77e", func := "tallystick/tallysticklaw02.NumOrder", spec := "numOrder", inPlace := ["math/bits.Add64", "math/bits.Sub64"], apart := false, narrowed := true }
def NumOrderUptoSaid : Prop := numOrderUptoRow.holds Try.pinned (OpenSpec.upto numOrderSpec)

/-- 'tallysticklaw02.NumTimes', WHERE WHAT IT READS IS OF BULK AT MOST 1048576: true; the input reads as it did. -/
def numTimesUptoRow : OpenClaim := { program := "ytiiaijoafahdmab", sum := "76532620aaa12cccc8fb75d83fdc769b8973a9f969700b611f0d40829fadf77e", func := "tallystick/tallysticklaw02.NumTimes", spec := "numTimes", inPlace := ["math/bits.Add64", "math/bits.Sub64"], apart := false, narrowed := true }
def NumTimesUptoSaid : Prop := numTimesUptoRow.holds Try.pinned (OpenSpec.upto numTimesSpec)

/-- 'tallysticklaw03.BitsMean', WHERE WHAT IT READS IS OF BULK AT MOST 1048576: true; the input reads as it did. -/
def bitsMeanUptoRow : OpenClaim := { program := "ytiiaijoafahdmab", sum := "76532620aaa12cccc8fb75d83fdc769b8973a9f969700b611f0d40829fadf77e", func := "tallystick/tallysticklaw03.BitsMean", spec := "bitsMean", inPlace := ["math/bits.Add64", "math/bits.Sub64"], apart := false, narrowed := true }
def BitsMeanUptoSaid : Prop := bitsMeanUptoRow.holds Try.pinned (OpenSpec.upto bitsMeanSpec)

/-- 'tallysticklaw03.BitsShort', WHERE WHAT IT READS IS OF BULK AT MOST 1048576: true; the input reads as it did. -/
def bitsShortUptoRow : OpenClaim := { program := "ytiiaijoafahdmab", sum := "76532620aaa12cccc8fb75d83fdc769b8973a9f969700b611f0d40829fadf77e", func := "tallystick/tallysticklaw03.BitsShort", spec := "bitsShort", inPlace := ["math/bits.Add64", "math/bits.Sub64"], apart := false, narrowed := true }
def BitsShortUptoSaid : Prop := bitsShortUptoRow.holds Try.pinned (OpenSpec.upto bitsShortSpec)

/-- 'tallysticklaw03.BitsNext', WHERE WHAT IT READS IS OF BULK AT MOST 1048576: true; the input reads as it did. -/
def bitsNextUptoRow : OpenClaim := { program := "ytiiaijoafahdmab", sum := "76532620aaa12cccc8fb75d83fdc769b8973a9f969700b611f0d40829fadf77e", func := "tallystick/tallysticklaw03.BitsNext", spec := "bitsNext", inPlace := ["math/bits.Add64", "math/bits.Sub64"], apart := false, narrowed := true }
def BitsNextUptoSaid : Prop := bitsNextUptoRow.holds Try.pinned (OpenSpec.upto bitsNextSpec)

/-- 'tallysticklaw03.BitsWork', WHERE WHAT IT READS IS OF BULK AT MOST 1048576: true; the input reads as it did. -/
def bitsWorkUptoRow : OpenClaim := { program := "ytiiaijoafahdmab", sum := "76532620aaa12cccc8fb75d83fdc769b8973a9f969700b611f0d40829fadf77e", func := "tallystick/tallysticklaw03.BitsWork", spec := "bitsWork", inPlace := ["math/bits.Add64", "math/bits.Sub64"], apart := false, narrowed := true }
def BitsWorkUptoSaid : Prop := bitsWorkUptoRow.holds Try.pinned (OpenSpec.upto bitsWorkSpec)

/-- 'tallysticklaw03.BitsStays', WHERE WHAT IT READS IS OF BULK AT MOST 1048576: true; the input reads as it did. -/
def bitsStaysUptoRow : OpenClaim := { program := "ytiiaijoafahdmab", sum := "76532620aaa12cccc8fb75d83fdc769b8973a9f969700b611f0d40829fadf77e", func := "tallystick/tallysticklaw03.BitsStays", spec := "bitsStays", inPlace := ["math/bits.Add64", "math/bits.Sub64"], apart := false, narrowed := true }
def BitsStaysUptoSaid : Prop := bitsStaysUptoRow.holds Try.pinned (OpenSpec.upto bitsStaysSpec)

/-- 'tallysticklaw03.BitsOrder', WHERE WHAT IT READS IS OF BULK AT MOST 1048576: true; the input reads as it did. -/
def bitsOrderUptoRow : OpenClaim := { program := "ytiiaijoafahdmab", sum := "76532620aaa12cccc8fb75d83fdc769b8973a9f969700b611f0d40829fadf77e", func := "tallystick/tallysticklaw03.BitsOrder", spec := "bitsOrder", inPlace := ["math/bits.Add64", "math/bits.Sub64"], apart := false, narrowed := true }
def BitsOrderUptoSaid : Prop := bitsOrderUptoRow.holds Try.pinned (OpenSpec.upto bitsOrderSpec)

/-- 'tallysticklaw03.BitsLimit', WHERE WHAT IT READS IS OF BULK AT MOST 1048576: true; the input reads as it did. -/
def bitsLimitUptoRow : OpenClaim := { program := "ytiiaijoafahdmab", sum := "76532620aaa12cccc8fb75d83fdc769b8973a9f969700b611f0d40829fadf77e", func := "tallystick/tallysticklaw03.BitsLimit", spec := "bitsLimit", inPlace := ["math/bits.Add64", "math/bits.Sub64"], apart := false, narrowed := true }
def BitsLimitUptoSaid : Prop := bitsLimitUptoRow.holds Try.pinned (OpenSpec.upto bitsLimitSpec)

end Rows
end Go.Proofs.Ytiiaijoafahdmab
