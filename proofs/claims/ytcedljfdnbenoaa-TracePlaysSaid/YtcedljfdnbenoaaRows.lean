/-
  No cell of these rows narrows 'for every input' (looked for: loops, veiled, ifaces, maps, wideKeys, modest, calm, conditions, laid).
  DERIVED. THE GIVEN ROWS OF THIS SEAT. 4 by the template 'for every input the law returns true; each argument reads behind the call as it read before'; 0 by the template 'total and deterministic' (their statements: YtcedljfdnbenoaaTotals.lean).
  GIVEN WITH THE SEED: the statements are not yours to turn. If you find one false, say at which input.
  Laid BY PROGRAM, IN A SANDBOX (cutbox-rows.mjs): the forced cells as the released guide's own fill.sh prints them over the translation 7e88f95d2a8933e8… (all of the seat's roots in one cut). By AI agents, Wed Nov 11 2026. No macro, syntax, notation, axiom, sorry.
-/
import Derived.Test.YtcedljfdnbenoaaChecked
import GoSem.Claim
import GoSem.ClaimJoined
import GoSem.ClaimMapViews
import Derived.JoinedTies
import Derived.KernelRfl
namespace Go.Proofs.Ytcedljfdnbenoaa
/- THE CELL 'sum', in the pinned program and in every row, IS THE sha256 OF THE DUMP (.gsa) THAT YtcedljfdnbenoaaProg.lean LOADS. Nothing in Lean hashes anything: it is a label: what it is worth is what the hold of that sum in a sandbox is worth. -/
noncomputable def Try.pinned : Pinned := { name := "ytcedljfdnbenoaa", sum := "7e88f95d2a8933e81acb477ce49ac3551de3b16f061071fc7d8dcd5f2bc48b6b", checked := Try.checked }
namespace Rows
def none {H : Type} : Left H := { results := [], args := [] }

/-- 'tallysticklaw21.TraceGreets': WHATEVER THE INPUT: true; the input reads as it did. -/
def traceGreetsSpec : ChangeSpec := { name := "traceGreets", fn := fun _ => fun
  | [d] => { results := [.lit (.bool true)], args := [d] }
  | _ => none }
def traceGreetsRow : OpenClaim := { program := "ytcedljfdnbenoaa", sum := "7e88f95d2a8933e81acb477ce49ac3551de3b16f061071fc7d8dcd5f2bc48b6b", func := "tallystick/tallysticklaw21.TraceGreets", spec := "traceGreets", plainKeys := false, apart := false }
def TraceGreetsSaid : Prop := traceGreetsRow.holds Try.pinned (OpenSpec.ofChange traceGreetsSpec)

/-- ITS FALSE NEIGHBOUR: 'it returns false'. Refute it at one input. -/
def traceGreetsWrong : ChangeSpec := { name := "traceGreets", fn := fun _ => fun
  | [d] => { results := [.lit (.bool false)], args := [d] }
  | _ => none }
def TraceGreetsWrongFalsely : Prop := traceGreetsRow.holds Try.pinned (OpenSpec.ofChange traceGreetsWrong)

/-- 'tallysticklaw21.TraceGone': WHATEVER THE INPUT: true; the input reads as it did. -/
def traceGoneSpec : ChangeSpec := { name := "traceGone", fn := fun _ => fun
  | [d] => { results := [.lit (.bool true)], args := [d] }
  | _ => none }
def traceGoneRow : OpenClaim := { program := "ytcedljfdnbenoaa", sum := "7e88f95d2a8933e81acb477ce49ac3551de3b16f061071fc7d8dcd5f2bc48b6b", func := "tallystick/tallysticklaw21.TraceGone", spec := "traceGone", plainKeys := false, apart := false }
def TraceGoneSaid : Prop := traceGoneRow.holds Try.pinned (OpenSpec.ofChange traceGoneSpec)

/-- ITS FALSE NEIGHBOUR: 'it returns false'. Refute it at one input. -/
def traceGoneWrong : ChangeSpec := { name := "traceGone", fn := fun _ => fun
  | [d] => { results := [.lit (.bool false)], args := [d] }
  | _ => none }
def TraceGoneWrongFalsely : Prop := traceGoneRow.holds Try.pinned (OpenSpec.ofChange traceGoneWrong)

/-- 'tallysticklaw21.TraceOnce': WHATEVER THE INPUT: true; the input reads as it did. -/
def traceOnceSpec : ChangeSpec := { name := "traceOnce", fn := fun _ => fun
  | [d1, d2] => { results := [.lit (.bool true)], args := [d1, d2] }
  | _ => none }
def traceOnceRow : OpenClaim := { program := "ytcedljfdnbenoaa", sum := "7e88f95d2a8933e81acb477ce49ac3551de3b16f061071fc7d8dcd5f2bc48b6b", func := "tallystick/tallysticklaw21.TraceOnce", spec := "traceOnce", plainKeys := false, apart := false }
def TraceOnceSaid : Prop := traceOnceRow.holds Try.pinned (OpenSpec.ofChange traceOnceSpec)

/-- ITS FALSE NEIGHBOUR: 'it returns false'. Refute it at one input. -/
def traceOnceWrong : ChangeSpec := { name := "traceOnce", fn := fun _ => fun
  | [d1, d2] => { results := [.lit (.bool false)], args := [d1, d2] }
  | _ => none }
def TraceOnceWrongFalsely : Prop := traceOnceRow.holds Try.pinned (OpenSpec.ofChange traceOnceWrong)

/-- 'tallysticklaw21.TracePlays': WHATEVER THE INPUT: true; the input reads as it did. -/
def tracePlaysSpec : ChangeSpec := { name := "tracePlays", fn := fun _ => fun
  | [d] => { results := [.lit (.bool true)], args := [d] }
  | _ => none }
def tracePlaysRow : OpenClaim := { program := "ytcedljfdnbenoaa", sum := "7e88f95d2a8933e81acb477ce49ac3551de3b16f061071fc7d8dcd5f2bc48b6b", func := "tallystick/tallysticklaw21.TracePlays", spec := "tracePlays", plainKeys := false, apart := false }
def TracePlaysSaid : Prop := tracePlaysRow.holds Try.pinned (OpenSpec.ofChange tracePlaysSpec)

/-- ITS FALSE NEIGHBOUR: 'it returns false'. Refute it at one input. -/
def tracePlaysWrong : ChangeSpec := { name := "tracePlays", fn := fun _ => fun
  | [d] => { results := [.lit (.bool false)], args := [d] }
  | _ => none }
def TracePlaysWrongFalsely : Prop := tracePlaysRow.holds Try.pinned (OpenSpec.ofChange tracePlaysWrong)

/- THE SECOND FORM. 'bulk': how many values and letters a reading holds, each counted each time it is reached (what is shared counts as often as it is met; a slice's spare places count too). A statement '..UptoSaid' is the law's where the arguments, and the package variables that the reading takes, are together of bulk at most 1048576: NARROWER than '..Said'. Prove '..Said' where nothing that the law and all that it calls make is longer than what came in: it says more and counts as full. Else prove '..UptoSaid'. A law counts once. -/
mutual
def uptoBulk {H : Type} : DataW H → Nat
  | .lit (.string bytes) => bytes.length + 1
  | .lit _ => 1
  | .nil => 1
  | .ptr d => uptoBulk d + 1
  | .slice elems spare => uptoBulkAll elems + uptoBulkAll spare + 1
  | .agg parts => uptoBulkAll parts + 1
  | .iface _ d => uptoBulk d + 1
  | .map entries => uptoBulkEntries entries + 1
  | .held _ => 1
def uptoBulkAll {H : Type} : List (DataW H) → Nat
  | [] => 0
  | d :: r => uptoBulk d + uptoBulkAll r
def uptoBulkEntries {H : Type} : List (Lit × DataW H) → Nat
  | [] => 0
  | x :: r => uptoBulkEntry x + uptoBulkEntries r
def uptoBulkEntry {H : Type} : Lit × DataW H → Nat
  | (.string bytes, d) => bytes.length + uptoBulk d + 1
  | (_, d) => uptoBulk d + 1
 end
def uptoSmall : (H : Type) → List (DataW H) → Bool := fun _ ds => decide (uptoBulkAll ds ≤ 1048576)
def OpenSpec.upto (s : _root_.Go.ChangeSpec) : _root_.Go.OpenSpec := { _root_.Go.OpenSpec.ofChange s with cond := some uptoSmall }

/-- 'tallysticklaw21.TraceGreets', WHERE WHAT IT READS IS OF BULK AT MOST 1048576: true; the input reads as it did. -/
def traceGreetsUptoRow : OpenClaim := { program := "ytcedljfdnbenoaa", sum := "7e88f95d2a8933e81acb477ce49ac3551de3b16f061071fc7d8dcd5f2bc48b6b", func := "tallystick/tallysticklaw21.TraceGreets", spec := "traceGreets", plainKeys := false, apart := false, narrowed := true }
def TraceGreetsUptoSaid : Prop := traceGreetsUptoRow.holds Try.pinned (OpenSpec.upto traceGreetsSpec)

/-- 'tallysticklaw21.TraceGone', WHERE WHAT IT READS IS OF BULK AT MOST 1048576: true; the input reads as it did. -/
def traceGoneUptoRow : OpenClaim := { program := "ytcedljfdnbenoaa", sum := "7e88f95d2a8933e81acb477ce49ac3551de3b16f061071fc7d8dcd5f2bc48b6b", func := "tallystick/tallysticklaw21.TraceGone", spec := "traceGone", plainKeys := false, apart := false, narrowed := true }
def TraceGoneUptoSaid : Prop := traceGoneUptoRow.holds Try.pinned (OpenSpec.upto traceGoneSpec)

/-- 'tallysticklaw21.TraceOnce', WHERE WHAT IT READS IS OF BULK AT MOST 1048576: true; the input reads as it did. -/
def traceOnceUptoRow : OpenClaim := { program := "ytcedljfdnbenoaa", sum := "7e88f95d2a8933e81acb477ce49ac3551de3b16f061071fc7d8dcd5f2bc48b6b", func := "tallystick/tallysticklaw21.TraceOnce", spec := "traceOnce", plainKeys := false, apart := false, narrowed := true }
def TraceOnceUptoSaid : Prop := traceOnceUptoRow.holds Try.pinned (OpenSpec.upto traceOnceSpec)

/-- 'tallysticklaw21.TracePlays', WHERE WHAT IT READS IS OF BULK AT MOST 1048576: true; the input reads as it did. -/
def tracePlaysUptoRow : OpenClaim := { program := "ytcedljfdnbenoaa", sum := "7e88f95d2a8933e81acb477ce49ac3551de3b16f061071fc7d8dcd5f2bc48b6b", func := "tallystick/tallysticklaw21.TracePlays", spec := "tracePlays", plainKeys := false, apart := false, narrowed := true }
def TracePlaysUptoSaid : Prop := tracePlaysUptoRow.holds Try.pinned (OpenSpec.upto tracePlaysSpec)

end Rows
end Go.Proofs.Ytcedljfdnbenoaa
