/-
  DERIVED. GIVEN WITH THE SEED: THE CARDS: each row of YtkpffjcdalclmaaDoorRows.lean that lists a variable, with what it lists TIED to the program's text (the seventh form; the later family's looks); each row that meets fmt, with fmt's text TOLD by the authors' own Lean function (tested against real Go, not proved from fmt's source: count such statements apart). THE CARD IS WHAT COUNTS. Prove the row's statement (the work); the ties are given (YtkpffjcdalclmaaDoorTie.lean); close each card by the builder's one call (the guide's Derived/Test/ToyasCard.lean, 'card_holds'). Laid BY PROGRAM, IN A SANDBOX (cutbox-door.mjs). By AI agents, Wed Nov 11 2026. No macro, syntax, notation, axiom, sorry.
-/
import Derived.Test.YtkpffjcdalclmaaDoorRows
import GoSem.ClaimSeven
namespace Go.Proofs.YtkpffjcdalclmaaDoor
namespace Rows

/-- THE TIED CARD OF 'tallysticklaw16.PeerPlays'. -/
def peerPlaysCard : Claim7 := { stood := { row := peerPlaysRow, standIns := [], harness := (true, "6bedd971f7739d38e592dd01ab7f3ac9b0073266d02da38f0cf366fa8ef49ffc"), looks := false }, kinds := [], alts := [], laidByText := true, laidKinds := [.data, .data, .data], laidTests := true, laidLooks := .later }
def PeerPlaysCardSaid : Prop := Claim7.holds Tryd.pinned (.plain (OpenSpec.ofChange peerPlaysSpec)) peerPlaysCard

/-- THE TIED CARD OF 'tallysticklaw16.PeerHonest'. -/
def peerHonestCard : Claim7 := { stood := { row := peerHonestRow, standIns := [], harness := (true, "6bedd971f7739d38e592dd01ab7f3ac9b0073266d02da38f0cf366fa8ef49ffc"), looks := false }, kinds := [], alts := [], laidByText := true, laidKinds := [.data, .data, .data], laidTests := true, laidLooks := .later }
def PeerHonestCardSaid : Prop := Claim7.holds Tryd.pinned (.plain (OpenSpec.ofChange peerHonestSpec)) peerHonestCard

/-- THE TIED CARD OF 'tallysticklaw16.PeerSmall'. -/
def peerSmallCard : Claim7 := { stood := { row := peerSmallRow, standIns := [], harness := (true, "6bedd971f7739d38e592dd01ab7f3ac9b0073266d02da38f0cf366fa8ef49ffc"), looks := false }, kinds := [], alts := [], laidByText := true, laidKinds := [.data, .data, .data], laidTests := true, laidLooks := .later }
def PeerSmallCardSaid : Prop := Claim7.holds Tryd.pinned (.plain (OpenSpec.ofChange peerSmallSpec)) peerSmallCard

/-- THE TIED CARD OF 'tallysticklaw16.PeerFirst'. -/
def peerFirstCard : Claim7 := { stood := { row := peerFirstRow, standIns := [], harness := (true, "6bedd971f7739d38e592dd01ab7f3ac9b0073266d02da38f0cf366fa8ef49ffc"), looks := false }, kinds := [], alts := [], laidByText := true, laidKinds := [.data, .data, .data], laidTests := true, laidLooks := .later }
def PeerFirstCardSaid : Prop := Claim7.holds Tryd.pinned (.plain (OpenSpec.ofChange peerFirstSpec)) peerFirstCard

/-- THE TIED CARD OF 'tallysticklaw16.PeerPieces'. -/
def peerPiecesCard : Claim7 := { stood := { row := peerPiecesRow, standIns := [], harness := (true, "6bedd971f7739d38e592dd01ab7f3ac9b0073266d02da38f0cf366fa8ef49ffc"), looks := false }, kinds := [], alts := [], laidByText := true, laidKinds := [.data, .data, .data], laidTests := true, laidLooks := .later }
def PeerPiecesCardSaid : Prop := Claim7.holds Tryd.pinned (.plain (OpenSpec.ofChange peerPiecesSpec)) peerPiecesCard

/-- THE TIED CARD OF 'tallysticklaw16.PeerClock'. -/
def peerClockCard : Claim7 := { stood := { row := peerClockRow, standIns := [], harness := (true, "6bedd971f7739d38e592dd01ab7f3ac9b0073266d02da38f0cf366fa8ef49ffc"), looks := false }, kinds := [], alts := [], laidByText := true, laidKinds := [.data, .data, .data], laidTests := true, laidLooks := .later }
def PeerClockCardSaid : Prop := Claim7.holds Tryd.pinned (.plain (OpenSpec.ofChange peerClockSpec)) peerClockCard

/-- THE TIED CARD OF 'tallysticktop.WholeManners'. -/
def wholeMannersCard : Claim7 := { stood := { row := wholeMannersRow, standIns := [], harness := (true, "6bedd971f7739d38e592dd01ab7f3ac9b0073266d02da38f0cf366fa8ef49ffc"), looks := false }, kinds := [], alts := [], laidByText := true, laidKinds := [.data, .data, .data], laidTests := true, laidLooks := .later }
def WholeMannersCardSaid : Prop := Claim7.holds Tryd.pinned (.plain (OpenSpec.ofChange wholeMannersSpec)) wholeMannersCard

/-- THE SECOND FORM's CARD OF 'tallysticklaw16.PeerPlays'. -/
def peerPlaysUptoCard : Claim7 := { stood := { row := peerPlaysUptoRow, standIns := [], harness := (true, "6bedd971f7739d38e592dd01ab7f3ac9b0073266d02da38f0cf366fa8ef49ffc"), looks := false }, kinds := [], alts := [], laidByText := true, laidKinds := [.data, .data, .data], laidTests := true, laidLooks := .later }
def PeerPlaysUptoCardSaid : Prop := Claim7.holds Tryd.pinned (.plain (OpenSpec.upto peerPlaysSpec)) peerPlaysUptoCard

/-- THE SECOND FORM's CARD OF 'tallysticklaw16.PeerHonest'. -/
def peerHonestUptoCard : Claim7 := { stood := { row := peerHonestUptoRow, standIns := [], harness := (true, "6bedd971f7739d38e592dd01ab7f3ac9b0073266d02da38f0cf366fa8ef49ffc"), looks := false }, kinds := [], alts := [], laidByText := true, laidKinds := [.data, .data, .data], laidTests := true, laidLooks := .later }
def PeerHonestUptoCardSaid : Prop := Claim7.holds Tryd.pinned (.plain (OpenSpec.upto peerHonestSpec)) peerHonestUptoCard

/-- THE SECOND FORM's CARD OF 'tallysticklaw16.PeerSmall'. -/
def peerSmallUptoCard : Claim7 := { stood := { row := peerSmallUptoRow, standIns := [], harness := (true, "6bedd971f7739d38e592dd01ab7f3ac9b0073266d02da38f0cf366fa8ef49ffc"), looks := false }, kinds := [], alts := [], laidByText := true, laidKinds := [.data, .data, .data], laidTests := true, laidLooks := .later }
def PeerSmallUptoCardSaid : Prop := Claim7.holds Tryd.pinned (.plain (OpenSpec.upto peerSmallSpec)) peerSmallUptoCard

/-- THE SECOND FORM's CARD OF 'tallysticklaw16.PeerFirst'. -/
def peerFirstUptoCard : Claim7 := { stood := { row := peerFirstUptoRow, standIns := [], harness := (true, "6bedd971f7739d38e592dd01ab7f3ac9b0073266d02da38f0cf366fa8ef49ffc"), looks := false }, kinds := [], alts := [], laidByText := true, laidKinds := [.data, .data, .data], laidTests := true, laidLooks := .later }
def PeerFirstUptoCardSaid : Prop := Claim7.holds Tryd.pinned (.plain (OpenSpec.upto peerFirstSpec)) peerFirstUptoCard

/-- THE SECOND FORM's CARD OF 'tallysticklaw16.PeerPieces'. -/
def peerPiecesUptoCard : Claim7 := { stood := { row := peerPiecesUptoRow, standIns := [], harness := (true, "6bedd971f7739d38e592dd01ab7f3ac9b0073266d02da38f0cf366fa8ef49ffc"), looks := false }, kinds := [], alts := [], laidByText := true, laidKinds := [.data, .data, .data], laidTests := true, laidLooks := .later }
def PeerPiecesUptoCardSaid : Prop := Claim7.holds Tryd.pinned (.plain (OpenSpec.upto peerPiecesSpec)) peerPiecesUptoCard

/-- THE SECOND FORM's CARD OF 'tallysticklaw16.PeerClock'. -/
def peerClockUptoCard : Claim7 := { stood := { row := peerClockUptoRow, standIns := [], harness := (true, "6bedd971f7739d38e592dd01ab7f3ac9b0073266d02da38f0cf366fa8ef49ffc"), looks := false }, kinds := [], alts := [], laidByText := true, laidKinds := [.data, .data, .data], laidTests := true, laidLooks := .later }
def PeerClockUptoCardSaid : Prop := Claim7.holds Tryd.pinned (.plain (OpenSpec.upto peerClockSpec)) peerClockUptoCard

/-- THE SECOND FORM's CARD OF 'tallysticktop.WholeManners'. -/
def wholeMannersUptoCard : Claim7 := { stood := { row := wholeMannersUptoRow, standIns := [], harness := (true, "6bedd971f7739d38e592dd01ab7f3ac9b0073266d02da38f0cf366fa8ef49ffc"), looks := false }, kinds := [], alts := [], laidByText := true, laidKinds := [.data, .data, .data], laidTests := true, laidLooks := .later }
def WholeMannersUptoCardSaid : Prop := Claim7.holds Tryd.pinned (.plain (OpenSpec.upto wholeMannersSpec)) wholeMannersUptoCard
end Rows
end Go.Proofs.YtkpffjcdalclmaaDoor
