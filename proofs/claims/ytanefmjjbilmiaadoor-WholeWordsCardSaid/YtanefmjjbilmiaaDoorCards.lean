/-
  DERIVED. GIVEN WITH THE SEED: THE CARDS: each row of YtanefmjjbilmiaaDoorRows.lean that lists a variable, with what it lists TIED to the program's text (the seventh form; the later family's looks); each row that meets fmt, with fmt's text TOLD by the authors' own Lean function (tested against real Go, not proved from fmt's source: count such statements apart). THE CARD IS WHAT COUNTS. Prove the row's statement (the work); the ties are given (YtanefmjjbilmiaaDoorTie.lean); close each card by the builder's one call (the guide's Derived/Test/ToyasCard.lean, 'card_holds'). Laid BY PROGRAM, IN A SANDBOX (cutbox-door.mjs). By AI agents, Wed Nov 11 2026. No macro, syntax, notation, axiom, sorry.
-/
import Derived.Test.YtanefmjjbilmiaaDoorRows
import GoSem.ClaimSeven
namespace Go.Proofs.YtanefmjjbilmiaaDoor
namespace Rows

/-- THE TIED CARD OF 'tallysticklaw08.FrameWrites'. -/
def frameWritesCard : Claim7 := { stood := { row := frameWritesRow, standIns := [], harness := (true, "f95808d60b75fb582c11955c4561df1232e6b2d4bca02196decf276444967252"), looks := false }, kinds := [], alts := [], laidByText := true, laidKinds := [.data, .data], laidTests := true, laidLooks := .later }
def FrameWritesCardSaid : Prop := Claim7.holds Tryd.pinned (.plain (OpenSpec.ofChange frameWritesSpec)) frameWritesCard

/-- THE TIED CARD OF 'tallysticklaw08.FrameReads'. -/
def frameReadsCard : Claim7 := { stood := { row := frameReadsRow, standIns := [], harness := (true, "f95808d60b75fb582c11955c4561df1232e6b2d4bca02196decf276444967252"), looks := false }, kinds := [], alts := [], laidByText := true, laidKinds := [.data, .data], laidTests := true, laidLooks := .later }
def FrameReadsCardSaid : Prop := Claim7.holds Tryd.pinned (.plain (OpenSpec.ofChange frameReadsSpec)) frameReadsCard

/-- THE TIED CARD OF 'tallysticklaw08.FrameStops'. -/
def frameStopsCard : Claim7 := { stood := { row := frameStopsRow, standIns := [], harness := (true, "f95808d60b75fb582c11955c4561df1232e6b2d4bca02196decf276444967252"), looks := false }, kinds := [], alts := [], laidByText := true, laidKinds := [.data, .data], laidTests := true, laidLooks := .later }
def FrameStopsCardSaid : Prop := Claim7.holds Tryd.pinned (.plain (OpenSpec.ofChange frameStopsSpec)) frameStopsCard

/-- THE TIED CARD OF 'tallysticklaw08.FrameOwn'. -/
def frameOwnCard : Claim7 := { stood := { row := frameOwnRow, standIns := [], harness := (true, "f95808d60b75fb582c11955c4561df1232e6b2d4bca02196decf276444967252"), looks := false }, kinds := [], alts := [], laidByText := true, laidKinds := [.data, .data], laidTests := true, laidLooks := .later }
def FrameOwnCardSaid : Prop := Claim7.holds Tryd.pinned (.plain (OpenSpec.ofChange frameOwnSpec)) frameOwnCard

/-- THE TIED CARD OF 'tallysticklaw08.FrameRow'. -/
def frameRowCard : Claim7 := { stood := { row := frameRowRow, standIns := [], harness := (true, "f95808d60b75fb582c11955c4561df1232e6b2d4bca02196decf276444967252"), looks := false }, kinds := [], alts := [], laidByText := true, laidKinds := [.data, .data], laidTests := true, laidLooks := .later }
def FrameRowCardSaid : Prop := Claim7.holds Tryd.pinned (.plain (OpenSpec.ofChange frameRowSpec)) frameRowCard

/-- THE TIED CARD OF 'tallysticklaw08.FrameBig'. -/
def frameBigCard : Claim7 := { stood := { row := frameBigRow, standIns := [], harness := (true, "f95808d60b75fb582c11955c4561df1232e6b2d4bca02196decf276444967252"), looks := false }, kinds := [], alts := [], laidByText := true, laidKinds := [.data, .data], laidTests := true, laidLooks := .later }
def FrameBigCardSaid : Prop := Claim7.holds Tryd.pinned (.plain (OpenSpec.ofChange frameBigSpec)) frameBigCard

/-- THE TIED CARD OF 'tallysticktop.WholeWords'. -/
def wholeWordsCard : Claim7 := { stood := { row := wholeWordsRow, standIns := [], harness := (true, "f95808d60b75fb582c11955c4561df1232e6b2d4bca02196decf276444967252"), looks := false }, kinds := [], alts := [], laidByText := true, laidKinds := [.data, .data], laidTests := true, laidLooks := .later }
def WholeWordsCardSaid : Prop := Claim7.holds Tryd.pinned (.plain (OpenSpec.ofChange wholeWordsSpec)) wholeWordsCard

/-- THE TIED CARD OF 'tallysticktop.WholeBlocks'. -/
def wholeBlocksCard : Claim7 := { stood := { row := wholeBlocksRow, standIns := [], harness := (true, "f95808d60b75fb582c11955c4561df1232e6b2d4bca02196decf276444967252"), looks := false }, kinds := [], alts := [], laidByText := true, laidKinds := [.data, .data], laidTests := true, laidLooks := .later }
def WholeBlocksCardSaid : Prop := Claim7.holds Tryd.pinned (.plain (OpenSpec.ofChange wholeBlocksSpec)) wholeBlocksCard

/-- THE TIED CARD OF 'tallysticklaw09.MsgWrites'. -/
def msgWritesCard : Claim7 := { stood := { row := msgWritesRow, standIns := [], harness := (true, "f95808d60b75fb582c11955c4561df1232e6b2d4bca02196decf276444967252"), looks := false }, kinds := [], alts := [], laidByText := true, laidKinds := [.data, .data, .data], laidTests := true, laidLooks := .later }
def MsgWritesCardSaid : Prop := Claim7.holds Tryd.pinned (.plain (OpenSpec.ofChange msgWritesSpec)) msgWritesCard

/-- THE TIED CARD OF 'tallysticklaw09.MsgAll'. -/
def msgAllCard : Claim7 := { stood := { row := msgAllRow, standIns := [], harness := (true, "f95808d60b75fb582c11955c4561df1232e6b2d4bca02196decf276444967252"), looks := false }, kinds := [], alts := [], laidByText := true, laidKinds := [.data, .data, .data], laidTests := true, laidLooks := .later }
def MsgAllCardSaid : Prop := Claim7.holds Tryd.pinned (.plain (OpenSpec.ofChange msgAllSpec)) msgAllCard

/-- THE TIED CARD OF 'tallysticklaw09.MsgLimits'. -/
def msgLimitsCard : Claim7 := { stood := { row := msgLimitsRow, standIns := [], harness := (true, "f95808d60b75fb582c11955c4561df1232e6b2d4bca02196decf276444967252"), looks := false }, kinds := [], alts := [], laidByText := true, laidKinds := [.data, .data, .data], laidTests := true, laidLooks := .later }
def MsgLimitsCardSaid : Prop := Claim7.holds Tryd.pinned (.plain (OpenSpec.ofChange msgLimitsSpec)) msgLimitsCard

/-- THE TIED CARD OF 'tallysticklaw09.MsgBlocks'. -/
def msgBlocksCard : Claim7 := { stood := { row := msgBlocksRow, standIns := [], harness := (true, "f95808d60b75fb582c11955c4561df1232e6b2d4bca02196decf276444967252"), looks := false }, kinds := [], alts := [], laidByText := true, laidKinds := [.data, .data, .data], laidTests := true, laidLooks := .later }
def MsgBlocksCardSaid : Prop := Claim7.holds Tryd.pinned (.plain (OpenSpec.ofChange msgBlocksSpec)) msgBlocksCard

/-- THE TIED CARD OF 'tallysticklaw09.MsgApart'. -/
def msgApartCard : Claim7 := { stood := { row := msgApartRow, standIns := [], harness := (true, "f95808d60b75fb582c11955c4561df1232e6b2d4bca02196decf276444967252"), looks := false }, kinds := [], alts := [], laidByText := true, laidKinds := [.data, .data, .data], laidTests := true, laidLooks := .later }
def MsgApartCardSaid : Prop := Claim7.holds Tryd.pinned (.plain (OpenSpec.ofChange msgApartSpec)) msgApartCard

/-- THE SECOND FORM's CARD OF 'tallysticklaw08.FrameWrites'. -/
def frameWritesUptoCard : Claim7 := { stood := { row := frameWritesUptoRow, standIns := [], harness := (true, "f95808d60b75fb582c11955c4561df1232e6b2d4bca02196decf276444967252"), looks := false }, kinds := [], alts := [], laidByText := true, laidKinds := [.data, .data], laidTests := true, laidLooks := .later }
def FrameWritesUptoCardSaid : Prop := Claim7.holds Tryd.pinned (.plain (OpenSpec.upto frameWritesSpec)) frameWritesUptoCard

/-- THE SECOND FORM's CARD OF 'tallysticklaw08.FrameReads'. -/
def frameReadsUptoCard : Claim7 := { stood := { row := frameReadsUptoRow, standIns := [], harness := (true, "f95808d60b75fb582c11955c4561df1232e6b2d4bca02196decf276444967252"), looks := false }, kinds := [], alts := [], laidByText := true, laidKinds := [.data, .data], laidTests := true, laidLooks := .later }
def FrameReadsUptoCardSaid : Prop := Claim7.holds Tryd.pinned (.plain (OpenSpec.upto frameReadsSpec)) frameReadsUptoCard

/-- THE SECOND FORM's CARD OF 'tallysticklaw08.FrameStops'. -/
def frameStopsUptoCard : Claim7 := { stood := { row := frameStopsUptoRow, standIns := [], harness := (true, "f95808d60b75fb582c11955c4561df1232e6b2d4bca02196decf276444967252"), looks := false }, kinds := [], alts := [], laidByText := true, laidKinds := [.data, .data], laidTests := true, laidLooks := .later }
def FrameStopsUptoCardSaid : Prop := Claim7.holds Tryd.pinned (.plain (OpenSpec.upto frameStopsSpec)) frameStopsUptoCard

/-- THE SECOND FORM's CARD OF 'tallysticklaw08.FrameOwn'. -/
def frameOwnUptoCard : Claim7 := { stood := { row := frameOwnUptoRow, standIns := [], harness := (true, "f95808d60b75fb582c11955c4561df1232e6b2d4bca02196decf276444967252"), looks := false }, kinds := [], alts := [], laidByText := true, laidKinds := [.data, .data], laidTests := true, laidLooks := .later }
def FrameOwnUptoCardSaid : Prop := Claim7.holds Tryd.pinned (.plain (OpenSpec.upto frameOwnSpec)) frameOwnUptoCard

/-- THE SECOND FORM's CARD OF 'tallysticklaw08.FrameRow'. -/
def frameRowUptoCard : Claim7 := { stood := { row := frameRowUptoRow, standIns := [], harness := (true, "f95808d60b75fb582c11955c4561df1232e6b2d4bca02196decf276444967252"), looks := false }, kinds := [], alts := [], laidByText := true, laidKinds := [.data, .data], laidTests := true, laidLooks := .later }
def FrameRowUptoCardSaid : Prop := Claim7.holds Tryd.pinned (.plain (OpenSpec.upto frameRowSpec)) frameRowUptoCard

/-- THE SECOND FORM's CARD OF 'tallysticklaw08.FrameBig'. -/
def frameBigUptoCard : Claim7 := { stood := { row := frameBigUptoRow, standIns := [], harness := (true, "f95808d60b75fb582c11955c4561df1232e6b2d4bca02196decf276444967252"), looks := false }, kinds := [], alts := [], laidByText := true, laidKinds := [.data, .data], laidTests := true, laidLooks := .later }
def FrameBigUptoCardSaid : Prop := Claim7.holds Tryd.pinned (.plain (OpenSpec.upto frameBigSpec)) frameBigUptoCard

/-- THE SECOND FORM's CARD OF 'tallysticktop.WholeWords'. -/
def wholeWordsUptoCard : Claim7 := { stood := { row := wholeWordsUptoRow, standIns := [], harness := (true, "f95808d60b75fb582c11955c4561df1232e6b2d4bca02196decf276444967252"), looks := false }, kinds := [], alts := [], laidByText := true, laidKinds := [.data, .data], laidTests := true, laidLooks := .later }
def WholeWordsUptoCardSaid : Prop := Claim7.holds Tryd.pinned (.plain (OpenSpec.upto wholeWordsSpec)) wholeWordsUptoCard

/-- THE SECOND FORM's CARD OF 'tallysticktop.WholeBlocks'. -/
def wholeBlocksUptoCard : Claim7 := { stood := { row := wholeBlocksUptoRow, standIns := [], harness := (true, "f95808d60b75fb582c11955c4561df1232e6b2d4bca02196decf276444967252"), looks := false }, kinds := [], alts := [], laidByText := true, laidKinds := [.data, .data], laidTests := true, laidLooks := .later }
def WholeBlocksUptoCardSaid : Prop := Claim7.holds Tryd.pinned (.plain (OpenSpec.upto wholeBlocksSpec)) wholeBlocksUptoCard

/-- THE SECOND FORM's CARD OF 'tallysticklaw09.MsgWrites'. -/
def msgWritesUptoCard : Claim7 := { stood := { row := msgWritesUptoRow, standIns := [], harness := (true, "f95808d60b75fb582c11955c4561df1232e6b2d4bca02196decf276444967252"), looks := false }, kinds := [], alts := [], laidByText := true, laidKinds := [.data, .data, .data], laidTests := true, laidLooks := .later }
def MsgWritesUptoCardSaid : Prop := Claim7.holds Tryd.pinned (.plain (OpenSpec.upto msgWritesSpec)) msgWritesUptoCard

/-- THE SECOND FORM's CARD OF 'tallysticklaw09.MsgAll'. -/
def msgAllUptoCard : Claim7 := { stood := { row := msgAllUptoRow, standIns := [], harness := (true, "f95808d60b75fb582c11955c4561df1232e6b2d4bca02196decf276444967252"), looks := false }, kinds := [], alts := [], laidByText := true, laidKinds := [.data, .data, .data], laidTests := true, laidLooks := .later }
def MsgAllUptoCardSaid : Prop := Claim7.holds Tryd.pinned (.plain (OpenSpec.upto msgAllSpec)) msgAllUptoCard

/-- THE SECOND FORM's CARD OF 'tallysticklaw09.MsgLimits'. -/
def msgLimitsUptoCard : Claim7 := { stood := { row := msgLimitsUptoRow, standIns := [], harness := (true, "f95808d60b75fb582c11955c4561df1232e6b2d4bca02196decf276444967252"), looks := false }, kinds := [], alts := [], laidByText := true, laidKinds := [.data, .data, .data], laidTests := true, laidLooks := .later }
def MsgLimitsUptoCardSaid : Prop := Claim7.holds Tryd.pinned (.plain (OpenSpec.upto msgLimitsSpec)) msgLimitsUptoCard

/-- THE SECOND FORM's CARD OF 'tallysticklaw09.MsgBlocks'. -/
def msgBlocksUptoCard : Claim7 := { stood := { row := msgBlocksUptoRow, standIns := [], harness := (true, "f95808d60b75fb582c11955c4561df1232e6b2d4bca02196decf276444967252"), looks := false }, kinds := [], alts := [], laidByText := true, laidKinds := [.data, .data, .data], laidTests := true, laidLooks := .later }
def MsgBlocksUptoCardSaid : Prop := Claim7.holds Tryd.pinned (.plain (OpenSpec.upto msgBlocksSpec)) msgBlocksUptoCard

/-- THE SECOND FORM's CARD OF 'tallysticklaw09.MsgApart'. -/
def msgApartUptoCard : Claim7 := { stood := { row := msgApartUptoRow, standIns := [], harness := (true, "f95808d60b75fb582c11955c4561df1232e6b2d4bca02196decf276444967252"), looks := false }, kinds := [], alts := [], laidByText := true, laidKinds := [.data, .data, .data], laidTests := true, laidLooks := .later }
def MsgApartUptoCardSaid : Prop := Claim7.holds Tryd.pinned (.plain (OpenSpec.upto msgApartSpec)) msgApartUptoCard
end Rows
end Go.Proofs.YtanefmjjbilmiaaDoor
