/-
  DERIVED. GIVEN WITH THE SEED: THE CARDS: each row of YtecmgojecjenmaaDoorRows.lean that lists a variable, with what it lists TIED to the program's text (the seventh form; the later family's looks); each row that meets fmt, with fmt's text TOLD by the authors' own Lean function (tested against real Go, not proved from fmt's source: count such statements apart). THE CARD IS WHAT COUNTS. Prove the row's statement (the work); the ties are given (YtecmgojecjenmaaDoorTie.lean); close each card by the builder's one call (the guide's Derived/Test/ToyasCard.lean, 'card_holds'). Laid BY PROGRAM, IN A SANDBOX (cutbox-door.mjs). By AI agents, Wed Nov 11 2026. No macro, syntax, notation, axiom, sorry.
-/
import Derived.Test.YtecmgojecjenmaaDoorRows
import GoSem.ClaimSeven
namespace Go.Proofs.YtecmgojecjenmaaDoor
namespace Rows

/-- THE TIED CARD OF 'tallysticklaw01.HashNumbers'. -/
def hashNumbersCard : Claim7 := { stood := { row := hashNumbersRow, standIns := [], harness := (true, "cc4b96b71094b23bac033f2cf86f83baa170fa3ae24772243f8e10b3b6165406"), looks := false }, kinds := [], alts := [], laidByText := true, laidKinds := [.data, .data], laidTests := true, laidLooks := .later }
def HashNumbersCardSaid : Prop := Claim7.holds Tryd.pinned (.plain (OpenSpec.ofChange hashNumbersSpec)) hashNumbersCard

/-- THE TIED CARD OF 'tallysticklaw04.MerkleOther'. -/
def merkleOtherCard : Claim7 := { stood := { row := merkleOtherRow, standIns := [], harness := (true, "cc4b96b71094b23bac033f2cf86f83baa170fa3ae24772243f8e10b3b6165406"), looks := false }, kinds := [], alts := [], laidByText := true, laidKinds := [.data, .data], laidTests := true, laidLooks := .later }
def MerkleOtherCardSaid : Prop := Claim7.holds Tryd.pinned (.plain (OpenSpec.ofChange merkleOtherSpec)) merkleOtherCard

/-- THE TIED CARD OF 'tallysticklaw04.MerkleOne'. -/
def merkleOneCard : Claim7 := { stood := { row := merkleOneRow, standIns := [], harness := (true, "cc4b96b71094b23bac033f2cf86f83baa170fa3ae24772243f8e10b3b6165406"), looks := false }, kinds := [], alts := [], laidByText := true, laidKinds := [.data, .data], laidTests := true, laidLooks := .later }
def MerkleOneCardSaid : Prop := Claim7.holds Tryd.pinned (.plain (OpenSpec.ofChange merkleOneSpec)) merkleOneCard

/-- THE TIED CARD OF 'tallysticklaw04.MerkleRoots'. -/
def merkleRootsCard : Claim7 := { stood := { row := merkleRootsRow, standIns := [], harness := (true, "cc4b96b71094b23bac033f2cf86f83baa170fa3ae24772243f8e10b3b6165406"), looks := false }, kinds := [], alts := [], laidByText := true, laidKinds := [.data, .data], laidTests := true, laidLooks := .later }
def MerkleRootsCardSaid : Prop := Claim7.holds Tryd.pinned (.plain (OpenSpec.ofChange merkleRootsSpec)) merkleRootsCard

/-- THE SECOND FORM's CARD OF 'tallysticklaw01.HashNumbers'. -/
def hashNumbersUptoCard : Claim7 := { stood := { row := hashNumbersUptoRow, standIns := [], harness := (true, "cc4b96b71094b23bac033f2cf86f83baa170fa3ae24772243f8e10b3b6165406"), looks := false }, kinds := [], alts := [], laidByText := true, laidKinds := [.data, .data], laidTests := true, laidLooks := .later }
def HashNumbersUptoCardSaid : Prop := Claim7.holds Tryd.pinned (.plain (OpenSpec.upto hashNumbersSpec)) hashNumbersUptoCard

/-- THE SECOND FORM's CARD OF 'tallysticklaw04.MerkleOther'. -/
def merkleOtherUptoCard : Claim7 := { stood := { row := merkleOtherUptoRow, standIns := [], harness := (true, "cc4b96b71094b23bac033f2cf86f83baa170fa3ae24772243f8e10b3b6165406"), looks := false }, kinds := [], alts := [], laidByText := true, laidKinds := [.data, .data], laidTests := true, laidLooks := .later }
def MerkleOtherUptoCardSaid : Prop := Claim7.holds Tryd.pinned (.plain (OpenSpec.upto merkleOtherSpec)) merkleOtherUptoCard

/-- THE SECOND FORM's CARD OF 'tallysticklaw04.MerkleOne'. -/
def merkleOneUptoCard : Claim7 := { stood := { row := merkleOneUptoRow, standIns := [], harness := (true, "cc4b96b71094b23bac033f2cf86f83baa170fa3ae24772243f8e10b3b6165406"), looks := false }, kinds := [], alts := [], laidByText := true, laidKinds := [.data, .data], laidTests := true, laidLooks := .later }
def MerkleOneUptoCardSaid : Prop := Claim7.holds Tryd.pinned (.plain (OpenSpec.upto merkleOneSpec)) merkleOneUptoCard

/-- THE SECOND FORM's CARD OF 'tallysticklaw04.MerkleRoots'. -/
def merkleRootsUptoCard : Claim7 := { stood := { row := merkleRootsUptoRow, standIns := [], harness := (true, "cc4b96b71094b23bac033f2cf86f83baa170fa3ae24772243f8e10b3b6165406"), looks := false }, kinds := [], alts := [], laidByText := true, laidKinds := [.data, .data], laidTests := true, laidLooks := .later }
def MerkleRootsUptoCardSaid : Prop := Claim7.holds Tryd.pinned (.plain (OpenSpec.upto merkleRootsSpec)) merkleRootsUptoCard
end Rows
end Go.Proofs.YtecmgojecjenmaaDoor
