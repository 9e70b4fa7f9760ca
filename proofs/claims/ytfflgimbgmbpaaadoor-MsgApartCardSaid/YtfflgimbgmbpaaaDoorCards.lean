/-
  DERIVED. GIVEN WITH THE SEED: THE CARDS: each row of YtfflgimbgmbpaaaDoorRows.lean that lists a variable, with what it lists TIED to the program's text (the seventh form; the later family's looks); each row that meets fmt, with fmt's text TOLD by the authors' own Lean function (tested against real Go, not proved from fmt's source: count such statements apart). THE CARD IS WHAT COUNTS. Prove the row's statement (the work); the ties are given (YtfflgimbgmbpaaaDoorTie.lean); close each card by the builder's one call (the guide's Derived/Test/ToyasCard.lean, 'card_holds'). Laid BY PROGRAM, IN A SANDBOX (cutbox-door.mjs). By AI agents, Wed Nov 11 2026. No macro, syntax, notation, axiom, sorry.
-/
import Derived.Test.YtfflgimbgmbpaaaDoorRows
import GoSem.ClaimSeven
namespace Go.Proofs.YtfflgimbgmbpaaaDoor
namespace Rows

/-- THE TIED CARD OF 'tallysticktop.WholeBlocks'. -/
def wholeBlocksCard : Claim7 := { stood := { row := wholeBlocksRow, standIns := [], harness := (true, "ee5ff591b55e683256b51d0f96d7cf0bdb92e03780ef376e439d8f5ded86b951"), looks := false }, kinds := [], alts := [], laidByText := true, laidKinds := [.data, .data], laidTests := true, laidLooks := .later }
def WholeBlocksCardSaid : Prop := Claim7.holds Tryd.pinned (.plain (OpenSpec.ofChange wholeBlocksSpec)) wholeBlocksCard

/-- THE TIED CARD OF 'tallysticklaw09.MsgLimits'. -/
def msgLimitsCard : Claim7 := { stood := { row := msgLimitsRow, standIns := [], harness := (true, "ee5ff591b55e683256b51d0f96d7cf0bdb92e03780ef376e439d8f5ded86b951"), looks := false }, kinds := [], alts := [], laidByText := true, laidKinds := [.data, .data, .data], laidTests := true, laidLooks := .later }
def MsgLimitsCardSaid : Prop := Claim7.holds Tryd.pinned (.plain (OpenSpec.ofChange msgLimitsSpec)) msgLimitsCard

/-- THE TIED CARD OF 'tallysticklaw09.MsgBlocks'. -/
def msgBlocksCard : Claim7 := { stood := { row := msgBlocksRow, standIns := [], harness := (true, "ee5ff591b55e683256b51d0f96d7cf0bdb92e03780ef376e439d8f5ded86b951"), looks := false }, kinds := [], alts := [], laidByText := true, laidKinds := [.data, .data, .data], laidTests := true, laidLooks := .later }
def MsgBlocksCardSaid : Prop := Claim7.holds Tryd.pinned (.plain (OpenSpec.ofChange msgBlocksSpec)) msgBlocksCard

/-- THE TIED CARD OF 'tallysticklaw09.MsgAll'. -/
def msgAllCard : Claim7 := { stood := { row := msgAllRow, standIns := [], harness := (true, "ee5ff591b55e683256b51d0f96d7cf0bdb92e03780ef376e439d8f5ded86b951"), looks := false }, kinds := [], alts := [], laidByText := true, laidKinds := [.data, .data, .data], laidTests := true, laidLooks := .later }
def MsgAllCardSaid : Prop := Claim7.holds Tryd.pinned (.plain (OpenSpec.ofChange msgAllSpec)) msgAllCard

/-- THE TIED CARD OF 'tallysticklaw09.MsgApart'. -/
def msgApartCard : Claim7 := { stood := { row := msgApartRow, standIns := [], harness := (true, "ee5ff591b55e683256b51d0f96d7cf0bdb92e03780ef376e439d8f5ded86b951"), looks := false }, kinds := [], alts := [], laidByText := true, laidKinds := [.data, .data, .data], laidTests := true, laidLooks := .later }
def MsgApartCardSaid : Prop := Claim7.holds Tryd.pinned (.plain (OpenSpec.ofChange msgApartSpec)) msgApartCard

/-- THE TIED CARD OF 'tallysticklaw09.MsgWrites'. -/
def msgWritesCard : Claim7 := { stood := { row := msgWritesRow, standIns := [], harness := (true, "ee5ff591b55e683256b51d0f96d7cf0bdb92e03780ef376e439d8f5ded86b951"), looks := false }, kinds := [], alts := [], laidByText := true, laidKinds := [.data, .data, .data], laidTests := true, laidLooks := .later }
def MsgWritesCardSaid : Prop := Claim7.holds Tryd.pinned (.plain (OpenSpec.ofChange msgWritesSpec)) msgWritesCard

/-- THE TIED CARD OF 'tallysticktop.WholeSpoken'. -/
def wholeSpokenCard : Claim7 := { stood := { row := wholeSpokenRow, standIns := [], harness := (true, "ee5ff591b55e683256b51d0f96d7cf0bdb92e03780ef376e439d8f5ded86b951"), looks := false }, kinds := [], alts := [], laidByText := true, laidKinds := [.data, .data, .data], laidTests := true, laidLooks := .later }
def WholeSpokenCardSaid : Prop := Claim7.holds Tryd.pinned (.plain (OpenSpec.ofChange wholeSpokenSpec)) wholeSpokenCard

/-- THE TIED CARD OF 'tallysticklaw12.CheckMoney'. -/
def checkMoneyCard : Claim7 := { stood := { row := checkMoneyRow, standIns := [], harness := (true, "ee5ff591b55e683256b51d0f96d7cf0bdb92e03780ef376e439d8f5ded86b951"), looks := false }, kinds := [], alts := [], laidByText := true, laidKinds := [.data, .data], laidTests := true, laidLooks := .later }
def CheckMoneyCardSaid : Prop := Claim7.holds Tryd.pinned (.plain (OpenSpec.ofChange checkMoneySpec)) checkMoneyCard

/-- THE TIED CARD OF 'tallysticklaw12.CheckOrder'. -/
def checkOrderCard : Claim7 := { stood := { row := checkOrderRow, standIns := [], harness := (true, "ee5ff591b55e683256b51d0f96d7cf0bdb92e03780ef376e439d8f5ded86b951"), looks := false }, kinds := [], alts := [], laidByText := true, laidKinds := [.data, .data], laidTests := true, laidLooks := .later }
def CheckOrderCardSaid : Prop := Claim7.holds Tryd.pinned (.plain (OpenSpec.ofChange checkOrderSpec)) checkOrderCard

/-- THE SECOND FORM's CARD OF 'tallysticktop.WholeBlocks'. -/
def wholeBlocksUptoCard : Claim7 := { stood := { row := wholeBlocksUptoRow, standIns := [], harness := (true, "ee5ff591b55e683256b51d0f96d7cf0bdb92e03780ef376e439d8f5ded86b951"), looks := false }, kinds := [], alts := [], laidByText := true, laidKinds := [.data, .data], laidTests := true, laidLooks := .later }
def WholeBlocksUptoCardSaid : Prop := Claim7.holds Tryd.pinned (.plain (OpenSpec.upto wholeBlocksSpec)) wholeBlocksUptoCard

/-- THE SECOND FORM's CARD OF 'tallysticklaw09.MsgLimits'. -/
def msgLimitsUptoCard : Claim7 := { stood := { row := msgLimitsUptoRow, standIns := [], harness := (true, "ee5ff591b55e683256b51d0f96d7cf0bdb92e03780ef376e439d8f5ded86b951"), looks := false }, kinds := [], alts := [], laidByText := true, laidKinds := [.data, .data, .data], laidTests := true, laidLooks := .later }
def MsgLimitsUptoCardSaid : Prop := Claim7.holds Tryd.pinned (.plain (OpenSpec.upto msgLimitsSpec)) msgLimitsUptoCard

/-- THE SECOND FORM's CARD OF 'tallysticklaw09.MsgBlocks'. -/
def msgBlocksUptoCard : Claim7 := { stood := { row := msgBlocksUptoRow, standIns := [], harness := (true, "ee5ff591b55e683256b51d0f96d7cf0bdb92e03780ef376e439d8f5ded86b951"), looks := false }, kinds := [], alts := [], laidByText := true, laidKinds := [.data, .data, .data], laidTests := true, laidLooks := .later }
def MsgBlocksUptoCardSaid : Prop := Claim7.holds Tryd.pinned (.plain (OpenSpec.upto msgBlocksSpec)) msgBlocksUptoCard

/-- THE SECOND FORM's CARD OF 'tallysticklaw09.MsgAll'. -/
def msgAllUptoCard : Claim7 := { stood := { row := msgAllUptoRow, standIns := [], harness := (true, "ee5ff591b55e683256b51d0f96d7cf0bdb92e03780ef376e439d8f5ded86b951"), looks := false }, kinds := [], alts := [], laidByText := true, laidKinds := [.data, .data, .data], laidTests := true, laidLooks := .later }
def MsgAllUptoCardSaid : Prop := Claim7.holds Tryd.pinned (.plain (OpenSpec.upto msgAllSpec)) msgAllUptoCard

/-- THE SECOND FORM's CARD OF 'tallysticklaw09.MsgApart'. -/
def msgApartUptoCard : Claim7 := { stood := { row := msgApartUptoRow, standIns := [], harness := (true, "ee5ff591b55e683256b51d0f96d7cf0bdb92e03780ef376e439d8f5ded86b951"), looks := false }, kinds := [], alts := [], laidByText := true, laidKinds := [.data, .data, .data], laidTests := true, laidLooks := .later }
def MsgApartUptoCardSaid : Prop := Claim7.holds Tryd.pinned (.plain (OpenSpec.upto msgApartSpec)) msgApartUptoCard

/-- THE SECOND FORM's CARD OF 'tallysticklaw09.MsgWrites'. -/
def msgWritesUptoCard : Claim7 := { stood := { row := msgWritesUptoRow, standIns := [], harness := (true, "ee5ff591b55e683256b51d0f96d7cf0bdb92e03780ef376e439d8f5ded86b951"), looks := false }, kinds := [], alts := [], laidByText := true, laidKinds := [.data, .data, .data], laidTests := true, laidLooks := .later }
def MsgWritesUptoCardSaid : Prop := Claim7.holds Tryd.pinned (.plain (OpenSpec.upto msgWritesSpec)) msgWritesUptoCard

/-- THE SECOND FORM's CARD OF 'tallysticktop.WholeSpoken'. -/
def wholeSpokenUptoCard : Claim7 := { stood := { row := wholeSpokenUptoRow, standIns := [], harness := (true, "ee5ff591b55e683256b51d0f96d7cf0bdb92e03780ef376e439d8f5ded86b951"), looks := false }, kinds := [], alts := [], laidByText := true, laidKinds := [.data, .data, .data], laidTests := true, laidLooks := .later }
def WholeSpokenUptoCardSaid : Prop := Claim7.holds Tryd.pinned (.plain (OpenSpec.upto wholeSpokenSpec)) wholeSpokenUptoCard

/-- THE SECOND FORM's CARD OF 'tallysticklaw12.CheckMoney'. -/
def checkMoneyUptoCard : Claim7 := { stood := { row := checkMoneyUptoRow, standIns := [], harness := (true, "ee5ff591b55e683256b51d0f96d7cf0bdb92e03780ef376e439d8f5ded86b951"), looks := false }, kinds := [], alts := [], laidByText := true, laidKinds := [.data, .data], laidTests := true, laidLooks := .later }
def CheckMoneyUptoCardSaid : Prop := Claim7.holds Tryd.pinned (.plain (OpenSpec.upto checkMoneySpec)) checkMoneyUptoCard

/-- THE SECOND FORM's CARD OF 'tallysticklaw12.CheckOrder'. -/
def checkOrderUptoCard : Claim7 := { stood := { row := checkOrderUptoRow, standIns := [], harness := (true, "ee5ff591b55e683256b51d0f96d7cf0bdb92e03780ef376e439d8f5ded86b951"), looks := false }, kinds := [], alts := [], laidByText := true, laidKinds := [.data, .data], laidTests := true, laidLooks := .later }
def CheckOrderUptoCardSaid : Prop := Claim7.holds Tryd.pinned (.plain (OpenSpec.upto checkOrderSpec)) checkOrderUptoCard
end Rows
end Go.Proofs.YtfflgimbgmbpaaaDoor
