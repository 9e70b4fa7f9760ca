/-
  DERIVED. GIVEN WITH THE SEED: THE CARDS: each row of YtkkkfcdoilojmaaDoorRows.lean that lists a variable, with what it lists TIED to the program's text (the seventh form; the later family's looks); each row that meets fmt, with fmt's text TOLD by the authors' own Lean function (tested against real Go, not proved from fmt's source: count such statements apart). THE CARD IS WHAT COUNTS. Prove the row's statement (the work); the ties are given (YtkkkfcdoilojmaaDoorTie.lean); close each card by the builder's one call (the guide's Derived/Test/ToyasCard.lean, 'card_holds'). Laid BY PROGRAM, IN A SANDBOX (cutbox-door.mjs). By AI agents, Wed Nov 11 2026. No macro, syntax, notation, axiom, sorry.
-/
import Derived.Test.YtkkkfcdoilojmaaDoorRows
import GoSem.ClaimSeven
namespace Go.Proofs.YtkkkfcdoilojmaaDoor
namespace Rows

/-- THE TIED CARD OF 'tallysticklaw04.MerkleLeads'. -/
def merkleLeadsCard : Claim7 := { stood := { row := merkleLeadsRow, standIns := [], harness := (true, "f2f3fd755c1d9e170defc1628e36cb84d8bb6bc96887a0523372404be432b339"), looks := false }, kinds := [], alts := [], laidByText := true, laidKinds := [.data, .data], laidTests := true, laidLooks := .later }
def MerkleLeadsCardSaid : Prop := Claim7.holds Tryd.pinned (.plain (OpenSpec.ofChange merkleLeadsSpec)) merkleLeadsCard

/-- THE TIED CARD OF 'tallysticklaw04.MerkleOther'. -/
def merkleOtherCard : Claim7 := { stood := { row := merkleOtherRow, standIns := [], harness := (true, "f2f3fd755c1d9e170defc1628e36cb84d8bb6bc96887a0523372404be432b339"), looks := false }, kinds := [], alts := [], laidByText := true, laidKinds := [.data, .data], laidTests := true, laidLooks := .later }
def MerkleOtherCardSaid : Prop := Claim7.holds Tryd.pinned (.plain (OpenSpec.ofChange merkleOtherSpec)) merkleOtherCard

/-- THE TIED CARD OF 'tallysticklaw04.MerkleOne'. -/
def merkleOneCard : Claim7 := { stood := { row := merkleOneRow, standIns := [], harness := (true, "f2f3fd755c1d9e170defc1628e36cb84d8bb6bc96887a0523372404be432b339"), looks := false }, kinds := [], alts := [], laidByText := true, laidKinds := [.data, .data], laidTests := true, laidLooks := .later }
def MerkleOneCardSaid : Prop := Claim7.holds Tryd.pinned (.plain (OpenSpec.ofChange merkleOneSpec)) merkleOneCard

/-- THE TIED CARD OF 'tallysticklaw04.MerkleTwins'. -/
def merkleTwinsCard : Claim7 := { stood := { row := merkleTwinsRow, standIns := [], harness := (true, "f2f3fd755c1d9e170defc1628e36cb84d8bb6bc96887a0523372404be432b339"), looks := false }, kinds := [], alts := [], laidByText := true, laidKinds := [.data, .data], laidTests := true, laidLooks := .later }
def MerkleTwinsCardSaid : Prop := Claim7.holds Tryd.pinned (.plain (OpenSpec.ofChange merkleTwinsSpec)) merkleTwinsCard

/-- THE TIED CARD OF 'tallysticklaw04.MerkleWays'. -/
def merkleWaysCard : Claim7 := { stood := { row := merkleWaysRow, standIns := [], harness := (true, "f2f3fd755c1d9e170defc1628e36cb84d8bb6bc96887a0523372404be432b339"), looks := false }, kinds := [], alts := [], laidByText := true, laidKinds := [.data, .data], laidTests := true, laidLooks := .later }
def MerkleWaysCardSaid : Prop := Claim7.holds Tryd.pinned (.plain (OpenSpec.ofChange merkleWaysSpec)) merkleWaysCard

/-- THE TIED CARD OF 'tallysticklaw04.MerkleRoots'. -/
def merkleRootsCard : Claim7 := { stood := { row := merkleRootsRow, standIns := [], harness := (true, "f2f3fd755c1d9e170defc1628e36cb84d8bb6bc96887a0523372404be432b339"), looks := false }, kinds := [], alts := [], laidByText := true, laidKinds := [.data, .data], laidTests := true, laidLooks := .later }
def MerkleRootsCardSaid : Prop := Claim7.holds Tryd.pinned (.plain (OpenSpec.ofChange merkleRootsSpec)) merkleRootsCard

/-- THE TIED CARD OF 'tallysticktop.WholeNumbers'. -/
def wholeNumbersCard : Claim7 := { stood := { row := wholeNumbersRow, standIns := [], harness := (true, "f2f3fd755c1d9e170defc1628e36cb84d8bb6bc96887a0523372404be432b339"), looks := false }, kinds := [], alts := [], laidByText := true, laidKinds := [.data, .data], laidTests := true, laidLooks := .later }
def WholeNumbersCardSaid : Prop := Claim7.holds Tryd.pinned (.plain (OpenSpec.ofChange wholeNumbersSpec)) wholeNumbersCard

/-- THE TIED CARD OF 'tallysticklaw05.HeadApart'. -/
def headApartCard : Claim7 := { stood := { row := headApartRow, standIns := [], harness := (true, "f2f3fd755c1d9e170defc1628e36cb84d8bb6bc96887a0523372404be432b339"), looks := false }, kinds := [], alts := [], laidByText := true, laidKinds := [.data, .data], laidTests := true, laidLooks := .later }
def HeadApartCardSaid : Prop := Claim7.holds Tryd.pinned (.plain (OpenSpec.ofChange headApartSpec)) headApartCard

/-- THE SECOND FORM's CARD OF 'tallysticklaw04.MerkleLeads'. -/
def merkleLeadsUptoCard : Claim7 := { stood := { row := merkleLeadsUptoRow, standIns := [], harness := (true, "f2f3fd755c1d9e170defc1628e36cb84d8bb6bc96887a0523372404be432b339"), looks := false }, kinds := [], alts := [], laidByText := true, laidKinds := [.data, .data], laidTests := true, laidLooks := .later }
def MerkleLeadsUptoCardSaid : Prop := Claim7.holds Tryd.pinned (.plain (OpenSpec.upto merkleLeadsSpec)) merkleLeadsUptoCard

/-- THE SECOND FORM's CARD OF 'tallysticklaw04.MerkleOther'. -/
def merkleOtherUptoCard : Claim7 := { stood := { row := merkleOtherUptoRow, standIns := [], harness := (true, "f2f3fd755c1d9e170defc1628e36cb84d8bb6bc96887a0523372404be432b339"), looks := false }, kinds := [], alts := [], laidByText := true, laidKinds := [.data, .data], laidTests := true, laidLooks := .later }
def MerkleOtherUptoCardSaid : Prop := Claim7.holds Tryd.pinned (.plain (OpenSpec.upto merkleOtherSpec)) merkleOtherUptoCard

/-- THE SECOND FORM's CARD OF 'tallysticklaw04.MerkleOne'. -/
def merkleOneUptoCard : Claim7 := { stood := { row := merkleOneUptoRow, standIns := [], harness := (true, "f2f3fd755c1d9e170defc1628e36cb84d8bb6bc96887a0523372404be432b339"), looks := false }, kinds := [], alts := [], laidByText := true, laidKinds := [.data, .data], laidTests := true, laidLooks := .later }
def MerkleOneUptoCardSaid : Prop := Claim7.holds Tryd.pinned (.plain (OpenSpec.upto merkleOneSpec)) merkleOneUptoCard

/-- THE SECOND FORM's CARD OF 'tallysticklaw04.MerkleTwins'. -/
def merkleTwinsUptoCard : Claim7 := { stood := { row := merkleTwinsUptoRow, standIns := [], harness := (true, "f2f3fd755c1d9e170defc1628e36cb84d8bb6bc96887a0523372404be432b339"), looks := false }, kinds := [], alts := [], laidByText := true, laidKinds := [.data, .data], laidTests := true, laidLooks := .later }
def MerkleTwinsUptoCardSaid : Prop := Claim7.holds Tryd.pinned (.plain (OpenSpec.upto merkleTwinsSpec)) merkleTwinsUptoCard

/-- THE SECOND FORM's CARD OF 'tallysticklaw04.MerkleWays'. -/
def merkleWaysUptoCard : Claim7 := { stood := { row := merkleWaysUptoRow, standIns := [], harness := (true, "f2f3fd755c1d9e170defc1628e36cb84d8bb6bc96887a0523372404be432b339"), looks := false }, kinds := [], alts := [], laidByText := true, laidKinds := [.data, .data], laidTests := true, laidLooks := .later }
def MerkleWaysUptoCardSaid : Prop := Claim7.holds Tryd.pinned (.plain (OpenSpec.upto merkleWaysSpec)) merkleWaysUptoCard

/-- THE SECOND FORM's CARD OF 'tallysticklaw04.MerkleRoots'. -/
def merkleRootsUptoCard : Claim7 := { stood := { row := merkleRootsUptoRow, standIns := [], harness := (true, "f2f3fd755c1d9e170defc1628e36cb84d8bb6bc96887a0523372404be432b339"), looks := false }, kinds := [], alts := [], laidByText := true, laidKinds := [.data, .data], laidTests := true, laidLooks := .later }
def MerkleRootsUptoCardSaid : Prop := Claim7.holds Tryd.pinned (.plain (OpenSpec.upto merkleRootsSpec)) merkleRootsUptoCard

/-- THE SECOND FORM's CARD OF 'tallysticktop.WholeNumbers'. -/
def wholeNumbersUptoCard : Claim7 := { stood := { row := wholeNumbersUptoRow, standIns := [], harness := (true, "f2f3fd755c1d9e170defc1628e36cb84d8bb6bc96887a0523372404be432b339"), looks := false }, kinds := [], alts := [], laidByText := true, laidKinds := [.data, .data], laidTests := true, laidLooks := .later }
def WholeNumbersUptoCardSaid : Prop := Claim7.holds Tryd.pinned (.plain (OpenSpec.upto wholeNumbersSpec)) wholeNumbersUptoCard

/-- THE SECOND FORM's CARD OF 'tallysticklaw05.HeadApart'. -/
def headApartUptoCard : Claim7 := { stood := { row := headApartUptoRow, standIns := [], harness := (true, "f2f3fd755c1d9e170defc1628e36cb84d8bb6bc96887a0523372404be432b339"), looks := false }, kinds := [], alts := [], laidByText := true, laidKinds := [.data, .data], laidTests := true, laidLooks := .later }
def HeadApartUptoCardSaid : Prop := Claim7.holds Tryd.pinned (.plain (OpenSpec.upto headApartSpec)) headApartUptoCard
end Rows
end Go.Proofs.YtkkkfcdoilojmaaDoor
