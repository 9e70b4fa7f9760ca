/-
  DERIVED. GIVEN WITH THE SEED: THE CARDS: each row of YtokiinpegclffaaDoorRows.lean that lists a variable, with what it lists TIED to the program's text (the seventh form; the later family's looks); each row that meets fmt, with fmt's text TOLD by the authors' own Lean function (tested against real Go, not proved from fmt's source: count such statements apart). THE CARD IS WHAT COUNTS. Prove the row's statement (the work); the ties are given (YtokiinpegclffaaDoorTie.lean); close each card by the builder's one call (the guide's Derived/Test/ToyasCard.lean, 'card_holds'). Laid BY PROGRAM, IN A SANDBOX (cutbox-door.mjs). By AI agents, Wed Nov 11 2026. No macro, syntax, notation, axiom, sorry.
-/
import Derived.Test.YtokiinpegclffaaDoorRows
import GoSem.ClaimSeven
namespace Go.Proofs.YtokiinpegclffaaDoor
namespace Rows

/-- THE TIED CARD OF 'tallysticklaw07.TxApart'. -/
def txApartCard : Claim7 := { stood := { row := txApartRow, standIns := [], harness := (true, "790286073697323b2423fea4b96684f003c5cbb1b9319ac1edcb84fad69ce65c"), looks := false }, kinds := [], alts := [], laidByText := true, laidKinds := [.data, .data], laidTests := true, laidLooks := .later }
def TxApartCardSaid : Prop := Claim7.holds Tryd.pinned (.plain (OpenSpec.ofChange txApartSpec)) txApartCard

/-- THE TIED CARD OF 'tallysticklaw07.TxOwn'. -/
def txOwnCard : Claim7 := { stood := { row := txOwnRow, standIns := [], harness := (true, "790286073697323b2423fea4b96684f003c5cbb1b9319ac1edcb84fad69ce65c"), looks := false }, kinds := [], alts := [], laidByText := true, laidKinds := [.data, .data], laidTests := true, laidLooks := .later }
def TxOwnCardSaid : Prop := Claim7.holds Tryd.pinned (.plain (OpenSpec.ofChange txOwnSpec)) txOwnCard

/-- THE TIED CARD OF 'tallysticklaw07.TxReads'. -/
def txReadsCard : Claim7 := { stood := { row := txReadsRow, standIns := [], harness := (true, "790286073697323b2423fea4b96684f003c5cbb1b9319ac1edcb84fad69ce65c"), looks := false }, kinds := [], alts := [], laidByText := true, laidKinds := [.data, .data], laidTests := true, laidLooks := .later }
def TxReadsCardSaid : Prop := Claim7.holds Tryd.pinned (.plain (OpenSpec.ofChange txReadsSpec)) txReadsCard

/-- THE TIED CARD OF 'tallysticklaw07.TxRoots'. -/
def txRootsCard : Claim7 := { stood := { row := txRootsRow, standIns := [], harness := (true, "790286073697323b2423fea4b96684f003c5cbb1b9319ac1edcb84fad69ce65c"), looks := false }, kinds := [], alts := [], laidByText := true, laidKinds := [.data, .data], laidTests := true, laidLooks := .later }
def TxRootsCardSaid : Prop := Claim7.holds Tryd.pinned (.plain (OpenSpec.ofChange txRootsSpec)) txRootsCard

/-- THE TIED CARD OF 'tallysticklaw07.TxCuts'. -/
def txCutsCard : Claim7 := { stood := { row := txCutsRow, standIns := [], harness := (true, "790286073697323b2423fea4b96684f003c5cbb1b9319ac1edcb84fad69ce65c"), looks := false }, kinds := [], alts := [], laidByText := true, laidKinds := [.data, .data], laidTests := true, laidLooks := .later }
def TxCutsCardSaid : Prop := Claim7.holds Tryd.pinned (.plain (OpenSpec.ofChange txCutsSpec)) txCutsCard

/-- THE TIED CARD OF 'tallysticklaw07.TxBlocks'. -/
def txBlocksCard : Claim7 := { stood := { row := txBlocksRow, standIns := [], harness := (true, "790286073697323b2423fea4b96684f003c5cbb1b9319ac1edcb84fad69ce65c"), looks := false }, kinds := [], alts := [], laidByText := true, laidKinds := [.data, .data], laidTests := true, laidLooks := .later }
def TxBlocksCardSaid : Prop := Claim7.holds Tryd.pinned (.plain (OpenSpec.ofChange txBlocksSpec)) txBlocksCard

/-- THE TIED CARD OF 'tallysticklaw08.FrameWrites'. -/
def frameWritesCard : Claim7 := { stood := { row := frameWritesRow, standIns := [], harness := (true, "790286073697323b2423fea4b96684f003c5cbb1b9319ac1edcb84fad69ce65c"), looks := false }, kinds := [], alts := [], laidByText := true, laidKinds := [.data, .data], laidTests := true, laidLooks := .later }
def FrameWritesCardSaid : Prop := Claim7.holds Tryd.pinned (.plain (OpenSpec.ofChange frameWritesSpec)) frameWritesCard

/-- THE TIED CARD OF 'tallysticklaw08.FrameReads'. -/
def frameReadsCard : Claim7 := { stood := { row := frameReadsRow, standIns := [], harness := (true, "790286073697323b2423fea4b96684f003c5cbb1b9319ac1edcb84fad69ce65c"), looks := false }, kinds := [], alts := [], laidByText := true, laidKinds := [.data, .data], laidTests := true, laidLooks := .later }
def FrameReadsCardSaid : Prop := Claim7.holds Tryd.pinned (.plain (OpenSpec.ofChange frameReadsSpec)) frameReadsCard

/-- THE TIED CARD OF 'tallysticklaw08.FrameStops'. -/
def frameStopsCard : Claim7 := { stood := { row := frameStopsRow, standIns := [], harness := (true, "790286073697323b2423fea4b96684f003c5cbb1b9319ac1edcb84fad69ce65c"), looks := false }, kinds := [], alts := [], laidByText := true, laidKinds := [.data, .data], laidTests := true, laidLooks := .later }
def FrameStopsCardSaid : Prop := Claim7.holds Tryd.pinned (.plain (OpenSpec.ofChange frameStopsSpec)) frameStopsCard

/-- THE TIED CARD OF 'tallysticklaw08.FrameOwn'. -/
def frameOwnCard : Claim7 := { stood := { row := frameOwnRow, standIns := [], harness := (true, "790286073697323b2423fea4b96684f003c5cbb1b9319ac1edcb84fad69ce65c"), looks := false }, kinds := [], alts := [], laidByText := true, laidKinds := [.data, .data], laidTests := true, laidLooks := .later }
def FrameOwnCardSaid : Prop := Claim7.holds Tryd.pinned (.plain (OpenSpec.ofChange frameOwnSpec)) frameOwnCard

/-- THE TIED CARD OF 'tallysticklaw08.FrameRow'. -/
def frameRowCard : Claim7 := { stood := { row := frameRowRow, standIns := [], harness := (true, "790286073697323b2423fea4b96684f003c5cbb1b9319ac1edcb84fad69ce65c"), looks := false }, kinds := [], alts := [], laidByText := true, laidKinds := [.data, .data], laidTests := true, laidLooks := .later }
def FrameRowCardSaid : Prop := Claim7.holds Tryd.pinned (.plain (OpenSpec.ofChange frameRowSpec)) frameRowCard

/-- THE TIED CARD OF 'tallysticklaw08.FrameBig'. -/
def frameBigCard : Claim7 := { stood := { row := frameBigRow, standIns := [], harness := (true, "790286073697323b2423fea4b96684f003c5cbb1b9319ac1edcb84fad69ce65c"), looks := false }, kinds := [], alts := [], laidByText := true, laidKinds := [.data, .data], laidTests := true, laidLooks := .later }
def FrameBigCardSaid : Prop := Claim7.holds Tryd.pinned (.plain (OpenSpec.ofChange frameBigSpec)) frameBigCard

/-- THE TIED CARD OF 'tallysticktop.WholeWords'. -/
def wholeWordsCard : Claim7 := { stood := { row := wholeWordsRow, standIns := [], harness := (true, "790286073697323b2423fea4b96684f003c5cbb1b9319ac1edcb84fad69ce65c"), looks := false }, kinds := [], alts := [], laidByText := true, laidKinds := [.data, .data], laidTests := true, laidLooks := .later }
def WholeWordsCardSaid : Prop := Claim7.holds Tryd.pinned (.plain (OpenSpec.ofChange wholeWordsSpec)) wholeWordsCard

/-- THE SECOND FORM's CARD OF 'tallysticklaw07.TxApart'. -/
def txApartUptoCard : Claim7 := { stood := { row := txApartUptoRow, standIns := [], harness := (true, "790286073697323b2423fea4b96684f003c5cbb1b9319ac1edcb84fad69ce65c"), looks := false }, kinds := [], alts := [], laidByText := true, laidKinds := [.data, .data], laidTests := true, laidLooks := .later }
def TxApartUptoCardSaid : Prop := Claim7.holds Tryd.pinned (.plain (OpenSpec.upto txApartSpec)) txApartUptoCard

/-- THE SECOND FORM's CARD OF 'tallysticklaw07.TxOwn'. -/
def txOwnUptoCard : Claim7 := { stood := { row := txOwnUptoRow, standIns := [], harness := (true, "790286073697323b2423fea4b96684f003c5cbb1b9319ac1edcb84fad69ce65c"), looks := false }, kinds := [], alts := [], laidByText := true, laidKinds := [.data, .data], laidTests := true, laidLooks := .later }
def TxOwnUptoCardSaid : Prop := Claim7.holds Tryd.pinned (.plain (OpenSpec.upto txOwnSpec)) txOwnUptoCard

/-- THE SECOND FORM's CARD OF 'tallysticklaw07.TxReads'. -/
def txReadsUptoCard : Claim7 := { stood := { row := txReadsUptoRow, standIns := [], harness := (true, "790286073697323b2423fea4b96684f003c5cbb1b9319ac1edcb84fad69ce65c"), looks := false }, kinds := [], alts := [], laidByText := true, laidKinds := [.data, .data], laidTests := true, laidLooks := .later }
def TxReadsUptoCardSaid : Prop := Claim7.holds Tryd.pinned (.plain (OpenSpec.upto txReadsSpec)) txReadsUptoCard

/-- THE SECOND FORM's CARD OF 'tallysticklaw07.TxRoots'. -/
def txRootsUptoCard : Claim7 := { stood := { row := txRootsUptoRow, standIns := [], harness := (true, "790286073697323b2423fea4b96684f003c5cbb1b9319ac1edcb84fad69ce65c"), looks := false }, kinds := [], alts := [], laidByText := true, laidKinds := [.data, .data], laidTests := true, laidLooks := .later }
def TxRootsUptoCardSaid : Prop := Claim7.holds Tryd.pinned (.plain (OpenSpec.upto txRootsSpec)) txRootsUptoCard

/-- THE SECOND FORM's CARD OF 'tallysticklaw07.TxCuts'. -/
def txCutsUptoCard : Claim7 := { stood := { row := txCutsUptoRow, standIns := [], harness := (true, "790286073697323b2423fea4b96684f003c5cbb1b9319ac1edcb84fad69ce65c"), looks := false }, kinds := [], alts := [], laidByText := true, laidKinds := [.data, .data], laidTests := true, laidLooks := .later }
def TxCutsUptoCardSaid : Prop := Claim7.holds Tryd.pinned (.plain (OpenSpec.upto txCutsSpec)) txCutsUptoCard

/-- THE SECOND FORM's CARD OF 'tallysticklaw07.TxBlocks'. -/
def txBlocksUptoCard : Claim7 := { stood := { row := txBlocksUptoRow, standIns := [], harness := (true, "790286073697323b2423fea4b96684f003c5cbb1b9319ac1edcb84fad69ce65c"), looks := false }, kinds := [], alts := [], laidByText := true, laidKinds := [.data, .data], laidTests := true, laidLooks := .later }
def TxBlocksUptoCardSaid : Prop := Claim7.holds Tryd.pinned (.plain (OpenSpec.upto txBlocksSpec)) txBlocksUptoCard

/-- THE SECOND FORM's CARD OF 'tallysticklaw08.FrameWrites'. -/
def frameWritesUptoCard : Claim7 := { stood := { row := frameWritesUptoRow, standIns := [], harness := (true, "790286073697323b2423fea4b96684f003c5cbb1b9319ac1edcb84fad69ce65c"), looks := false }, kinds := [], alts := [], laidByText := true, laidKinds := [.data, .data], laidTests := true, laidLooks := .later }
def FrameWritesUptoCardSaid : Prop := Claim7.holds Tryd.pinned (.plain (OpenSpec.upto frameWritesSpec)) frameWritesUptoCard

/-- THE SECOND FORM's CARD OF 'tallysticklaw08.FrameReads'. -/
def frameReadsUptoCard : Claim7 := { stood := { row := frameReadsUptoRow, standIns := [], harness := (true, "790286073697323b2423fea4b96684f003c5cbb1b9319ac1edcb84fad69ce65c"), looks := false }, kinds := [], alts := [], laidByText := true, laidKinds := [.data, .data], laidTests := true, laidLooks := .later }
def FrameReadsUptoCardSaid : Prop := Claim7.holds Tryd.pinned (.plain (OpenSpec.upto frameReadsSpec)) frameReadsUptoCard

/-- THE SECOND FORM's CARD OF 'tallysticklaw08.FrameStops'. -/
def frameStopsUptoCard : Claim7 := { stood := { row := frameStopsUptoRow, standIns := [], harness := (true, "790286073697323b2423fea4b96684f003c5cbb1b9319ac1edcb84fad69ce65c"), looks := false }, kinds := [], alts := [], laidByText := true, laidKinds := [.data, .data], laidTests := true, laidLooks := .later }
def FrameStopsUptoCardSaid : Prop := Claim7.holds Tryd.pinned (.plain (OpenSpec.upto frameStopsSpec)) frameStopsUptoCard

/-- THE SECOND FORM's CARD OF 'tallysticklaw08.FrameOwn'. -/
def frameOwnUptoCard : Claim7 := { stood := { row := frameOwnUptoRow, standIns := [], harness := (true, "790286073697323b2423fea4b96684f003c5cbb1b9319ac1edcb84fad69ce65c"), looks := false }, kinds := [], alts := [], laidByText := true, laidKinds := [.data, .data], laidTests := true, laidLooks := .later }
def FrameOwnUptoCardSaid : Prop := Claim7.holds Tryd.pinned (.plain (OpenSpec.upto frameOwnSpec)) frameOwnUptoCard

/-- THE SECOND FORM's CARD OF 'tallysticklaw08.FrameRow'. -/
def frameRowUptoCard : Claim7 := { stood := { row := frameRowUptoRow, standIns := [], harness := (true, "790286073697323b2423fea4b96684f003c5cbb1b9319ac1edcb84fad69ce65c"), looks := false }, kinds := [], alts := [], laidByText := true, laidKinds := [.data, .data], laidTests := true, laidLooks := .later }
def FrameRowUptoCardSaid : Prop := Claim7.holds Tryd.pinned (.plain (OpenSpec.upto frameRowSpec)) frameRowUptoCard

/-- THE SECOND FORM's CARD OF 'tallysticklaw08.FrameBig'. -/
def frameBigUptoCard : Claim7 := { stood := { row := frameBigUptoRow, standIns := [], harness := (true, "790286073697323b2423fea4b96684f003c5cbb1b9319ac1edcb84fad69ce65c"), looks := false }, kinds := [], alts := [], laidByText := true, laidKinds := [.data, .data], laidTests := true, laidLooks := .later }
def FrameBigUptoCardSaid : Prop := Claim7.holds Tryd.pinned (.plain (OpenSpec.upto frameBigSpec)) frameBigUptoCard

/-- THE SECOND FORM's CARD OF 'tallysticktop.WholeWords'. -/
def wholeWordsUptoCard : Claim7 := { stood := { row := wholeWordsUptoRow, standIns := [], harness := (true, "790286073697323b2423fea4b96684f003c5cbb1b9319ac1edcb84fad69ce65c"), looks := false }, kinds := [], alts := [], laidByText := true, laidKinds := [.data, .data], laidTests := true, laidLooks := .later }
def WholeWordsUptoCardSaid : Prop := Claim7.holds Tryd.pinned (.plain (OpenSpec.upto wholeWordsSpec)) wholeWordsUptoCard
end Rows
end Go.Proofs.YtokiinpegclffaaDoor
