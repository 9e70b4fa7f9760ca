/-
  DERIVED. GIVEN WITH THE SEED: THE CARDS: each row of YtkhiicnahijnoaaDoorRows.lean that lists a variable, with what it lists TIED to the program's text (the seventh form; the later family's looks); each row that meets fmt, with fmt's text TOLD by the authors' own Lean function (tested against real Go, not proved from fmt's source: count such statements apart). THE CARD IS WHAT COUNTS. Prove the row's statement (the work); the ties are given (YtkhiicnahijnoaaDoorTie.lean); close each card by the builder's one call (the guide's Derived/Test/ToyasCard.lean, 'card_holds'). Laid BY PROGRAM, IN A SANDBOX (cutbox-door.mjs). By AI agents, Wed Nov 11 2026. No macro, syntax, notation, axiom, sorry.
-/
import Derived.Test.YtkhiicnahijnoaaDoorRows
import GoSem.ClaimSeven
namespace Go.Proofs.YtkhiicnahijnoaaDoor
namespace Rows

/-- THE TIED CARD OF 'tallysticklaw05.HeadApart'. -/
def headApartCard : Claim7 := { stood := { row := headApartRow, standIns := [], harness := (true, "285a16203ce7badeed4ce1d420d64d89a5bb5678083bb5132d87ea09b58b3c44"), looks := false }, kinds := [], alts := [], laidByText := true, laidKinds := [.data, .data], laidTests := true, laidLooks := .later }
def HeadApartCardSaid : Prop := Claim7.holds Tryd.pinned (.plain (OpenSpec.ofChange headApartSpec)) headApartCard

/-- THE TIED CARD OF 'tallysticklaw05.HeadEasier'. -/
def headEasierCard : Claim7 := { stood := { row := headEasierRow, standIns := [], harness := (true, "285a16203ce7badeed4ce1d420d64d89a5bb5678083bb5132d87ea09b58b3c44"), looks := false }, kinds := [], alts := [], laidByText := true, laidKinds := [.data, .data], laidTests := true, laidLooks := .later }
def HeadEasierCardSaid : Prop := Claim7.holds Tryd.pinned (.plain (OpenSpec.ofChange headEasierSpec)) headEasierCard

/-- THE TIED CARD OF 'tallysticklaw05.HeadNonces'. -/
def headNoncesCard : Claim7 := { stood := { row := headNoncesRow, standIns := [], harness := (true, "285a16203ce7badeed4ce1d420d64d89a5bb5678083bb5132d87ea09b58b3c44"), looks := false }, kinds := [], alts := [], laidByText := true, laidKinds := [.data, .data], laidTests := true, laidLooks := .later }
def HeadNoncesCardSaid : Prop := Claim7.holds Tryd.pinned (.plain (OpenSpec.ofChange headNoncesSpec)) headNoncesCard

/-- THE TIED CARD OF 'tallysticklaw05.HeadBytes'. -/
def headBytesCard : Claim7 := { stood := { row := headBytesRow, standIns := [], harness := (true, "285a16203ce7badeed4ce1d420d64d89a5bb5678083bb5132d87ea09b58b3c44"), looks := false }, kinds := [], alts := [], laidByText := true, laidKinds := [.data, .data], laidTests := true, laidLooks := .later }
def HeadBytesCardSaid : Prop := Claim7.holds Tryd.pinned (.plain (OpenSpec.ofChange headBytesSpec)) headBytesCard

/-- THE TIED CARD OF 'tallysticklaw05.HeadProved'. -/
def headProvedCard : Claim7 := { stood := { row := headProvedRow, standIns := [], harness := (true, "285a16203ce7badeed4ce1d420d64d89a5bb5678083bb5132d87ea09b58b3c44"), looks := false }, kinds := [], alts := [], laidByText := true, laidKinds := [.data, .data], laidTests := true, laidLooks := .later }
def HeadProvedCardSaid : Prop := Claim7.holds Tryd.pinned (.plain (OpenSpec.ofChange headProvedSpec)) headProvedCard

/-- THE TIED CARD OF 'tallysticklaw05.HeadMines'. -/
def headMinesCard : Claim7 := { stood := { row := headMinesRow, standIns := [], harness := (true, "285a16203ce7badeed4ce1d420d64d89a5bb5678083bb5132d87ea09b58b3c44"), looks := false }, kinds := [], alts := [], laidByText := true, laidKinds := [.data, .data], laidTests := true, laidLooks := .later }
def HeadMinesCardSaid : Prop := Claim7.holds Tryd.pinned (.plain (OpenSpec.ofChange headMinesSpec)) headMinesCard

/-- THE TIED CARD OF 'tallysticklaw04.MerkleOther'. -/
def merkleOtherCard : Claim7 := { stood := { row := merkleOtherRow, standIns := [], harness := (true, "285a16203ce7badeed4ce1d420d64d89a5bb5678083bb5132d87ea09b58b3c44"), looks := false }, kinds := [], alts := [], laidByText := true, laidKinds := [.data, .data], laidTests := true, laidLooks := .later }
def MerkleOtherCardSaid : Prop := Claim7.holds Tryd.pinned (.plain (OpenSpec.ofChange merkleOtherSpec)) merkleOtherCard

/-- THE TIED CARD OF 'tallysticklaw04.MerkleOne'. -/
def merkleOneCard : Claim7 := { stood := { row := merkleOneRow, standIns := [], harness := (true, "285a16203ce7badeed4ce1d420d64d89a5bb5678083bb5132d87ea09b58b3c44"), looks := false }, kinds := [], alts := [], laidByText := true, laidKinds := [.data, .data], laidTests := true, laidLooks := .later }
def MerkleOneCardSaid : Prop := Claim7.holds Tryd.pinned (.plain (OpenSpec.ofChange merkleOneSpec)) merkleOneCard

/-- THE TIED CARD OF 'tallysticklaw04.MerkleRoots'. -/
def merkleRootsCard : Claim7 := { stood := { row := merkleRootsRow, standIns := [], harness := (true, "285a16203ce7badeed4ce1d420d64d89a5bb5678083bb5132d87ea09b58b3c44"), looks := false }, kinds := [], alts := [], laidByText := true, laidKinds := [.data, .data], laidTests := true, laidLooks := .later }
def MerkleRootsCardSaid : Prop := Claim7.holds Tryd.pinned (.plain (OpenSpec.ofChange merkleRootsSpec)) merkleRootsCard

/-- THE TIED CARD OF 'tallysticktop.WholeTargets'. -/
def wholeTargetsCard : Claim7 := { stood := { row := wholeTargetsRow, standIns := [], harness := (true, "285a16203ce7badeed4ce1d420d64d89a5bb5678083bb5132d87ea09b58b3c44"), looks := false }, kinds := [], alts := [], laidByText := true, laidKinds := [.data, .data], laidTests := true, laidLooks := .later }
def WholeTargetsCardSaid : Prop := Claim7.holds Tryd.pinned (.plain (OpenSpec.ofChange wholeTargetsSpec)) wholeTargetsCard

/-- THE TIED CARD OF 'tallysticklaw01.HashNumbers'. -/
def hashNumbersCard : Claim7 := { stood := { row := hashNumbersRow, standIns := [], harness := (true, "285a16203ce7badeed4ce1d420d64d89a5bb5678083bb5132d87ea09b58b3c44"), looks := false }, kinds := [], alts := [], laidByText := true, laidKinds := [.data, .data], laidTests := true, laidLooks := .later }
def HashNumbersCardSaid : Prop := Claim7.holds Tryd.pinned (.plain (OpenSpec.ofChange hashNumbersSpec)) hashNumbersCard

/-- THE SECOND FORM's CARD OF 'tallysticklaw05.HeadApart'. -/
def headApartUptoCard : Claim7 := { stood := { row := headApartUptoRow, standIns := [], harness := (true, "285a16203ce7badeed4ce1d420d64d89a5bb5678083bb5132d87ea09b58b3c44"), looks := false }, kinds := [], alts := [], laidByText := true, laidKinds := [.data, .data], laidTests := true, laidLooks := .later }
def HeadApartUptoCardSaid : Prop := Claim7.holds Tryd.pinned (.plain (OpenSpec.upto headApartSpec)) headApartUptoCard

/-- THE SECOND FORM's CARD OF 'tallysticklaw05.HeadEasier'. -/
def headEasierUptoCard : Claim7 := { stood := { row := headEasierUptoRow, standIns := [], harness := (true, "285a16203ce7badeed4ce1d420d64d89a5bb5678083bb5132d87ea09b58b3c44"), looks := false }, kinds := [], alts := [], laidByText := true, laidKinds := [.data, .data], laidTests := true, laidLooks := .later }
def HeadEasierUptoCardSaid : Prop := Claim7.holds Tryd.pinned (.plain (OpenSpec.upto headEasierSpec)) headEasierUptoCard

/-- THE SECOND FORM's CARD OF 'tallysticklaw05.HeadNonces'. -/
def headNoncesUptoCard : Claim7 := { stood := { row := headNoncesUptoRow, standIns := [], harness := (true, "285a16203ce7badeed4ce1d420d64d89a5bb5678083bb5132d87ea09b58b3c44"), looks := false }, kinds := [], alts := [], laidByText := true, laidKinds := [.data, .data], laidTests := true, laidLooks := .later }
def HeadNoncesUptoCardSaid : Prop := Claim7.holds Tryd.pinned (.plain (OpenSpec.upto headNoncesSpec)) headNoncesUptoCard

/-- THE SECOND FORM's CARD OF 'tallysticklaw05.HeadBytes'. -/
def headBytesUptoCard : Claim7 := { stood := { row := headBytesUptoRow, standIns := [], harness := (true, "285a16203ce7badeed4ce1d420d64d89a5bb5678083bb5132d87ea09b58b3c44"), looks := false }, kinds := [], alts := [], laidByText := true, laidKinds := [.data, .data], laidTests := true, laidLooks := .later }
def HeadBytesUptoCardSaid : Prop := Claim7.holds Tryd.pinned (.plain (OpenSpec.upto headBytesSpec)) headBytesUptoCard

/-- THE SECOND FORM's CARD OF 'tallysticklaw05.HeadProved'. -/
def headProvedUptoCard : Claim7 := { stood := { row := headProvedUptoRow, standIns := [], harness := (true, "285a16203ce7badeed4ce1d420d64d89a5bb5678083bb5132d87ea09b58b3c44"), looks := false }, kinds := [], alts := [], laidByText := true, laidKinds := [.data, .data], laidTests := true, laidLooks := .later }
def HeadProvedUptoCardSaid : Prop := Claim7.holds Tryd.pinned (.plain (OpenSpec.upto headProvedSpec)) headProvedUptoCard

/-- THE SECOND FORM's CARD OF 'tallysticklaw05.HeadMines'. -/
def headMinesUptoCard : Claim7 := { stood := { row := headMinesUptoRow, standIns := [], harness := (true, "285a16203ce7badeed4ce1d420d64d89a5bb5678083bb5132d87ea09b58b3c44"), looks := false }, kinds := [], alts := [], laidByText := true, laidKinds := [.data, .data], laidTests := true, laidLooks := .later }
def HeadMinesUptoCardSaid : Prop := Claim7.holds Tryd.pinned (.plain (OpenSpec.upto headMinesSpec)) headMinesUptoCard

/-- THE SECOND FORM's CARD OF 'tallysticklaw04.MerkleOther'. -/
def merkleOtherUptoCard : Claim7 := { stood := { row := merkleOtherUptoRow, standIns := [], harness := (true, "285a16203ce7badeed4ce1d420d64d89a5bb5678083bb5132d87ea09b58b3c44"), looks := false }, kinds := [], alts := [], laidByText := true, laidKinds := [.data, .data], laidTests := true, laidLooks := .later }
def MerkleOtherUptoCardSaid : Prop := Claim7.holds Tryd.pinned (.plain (OpenSpec.upto merkleOtherSpec)) merkleOtherUptoCard

/-- THE SECOND FORM's CARD OF 'tallysticklaw04.MerkleOne'. -/
def merkleOneUptoCard : Claim7 := { stood := { row := merkleOneUptoRow, standIns := [], harness := (true, "285a16203ce7badeed4ce1d420d64d89a5bb5678083bb5132d87ea09b58b3c44"), looks := false }, kinds := [], alts := [], laidByText := true, laidKinds := [.data, .data], laidTests := true, laidLooks := .later }
def MerkleOneUptoCardSaid : Prop := Claim7.holds Tryd.pinned (.plain (OpenSpec.upto merkleOneSpec)) merkleOneUptoCard

/-- THE SECOND FORM's CARD OF 'tallysticklaw04.MerkleRoots'. -/
def merkleRootsUptoCard : Claim7 := { stood := { row := merkleRootsUptoRow, standIns := [], harness := (true, "285a16203ce7badeed4ce1d420d64d89a5bb5678083bb5132d87ea09b58b3c44"), looks := false }, kinds := [], alts := [], laidByText := true, laidKinds := [.data, .data], laidTests := true, laidLooks := .later }
def MerkleRootsUptoCardSaid : Prop := Claim7.holds Tryd.pinned (.plain (OpenSpec.upto merkleRootsSpec)) merkleRootsUptoCard

/-- THE SECOND FORM's CARD OF 'tallysticktop.WholeTargets'. -/
def wholeTargetsUptoCard : Claim7 := { stood := { row := wholeTargetsUptoRow, standIns := [], harness := (true, "285a16203ce7badeed4ce1d420d64d89a5bb5678083bb5132d87ea09b58b3c44"), looks := false }, kinds := [], alts := [], laidByText := true, laidKinds := [.data, .data], laidTests := true, laidLooks := .later }
def WholeTargetsUptoCardSaid : Prop := Claim7.holds Tryd.pinned (.plain (OpenSpec.upto wholeTargetsSpec)) wholeTargetsUptoCard

/-- THE SECOND FORM's CARD OF 'tallysticklaw01.HashNumbers'. -/
def hashNumbersUptoCard : Claim7 := { stood := { row := hashNumbersUptoRow, standIns := [], harness := (true, "285a16203ce7badeed4ce1d420d64d89a5bb5678083bb5132d87ea09b58b3c44"), looks := false }, kinds := [], alts := [], laidByText := true, laidKinds := [.data, .data], laidTests := true, laidLooks := .later }
def HashNumbersUptoCardSaid : Prop := Claim7.holds Tryd.pinned (.plain (OpenSpec.upto hashNumbersSpec)) hashNumbersUptoCard
end Rows
end Go.Proofs.YtkhiicnahijnoaaDoor
