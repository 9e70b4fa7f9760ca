/-
  DERIVED. GIVEN WITH THE SEED: THE CARDS: each row of YtccgfjkahdbboaaDoorRows.lean that lists a variable, with what it lists TIED to the program's text (the seventh form; the later family's looks); each row that meets fmt, with fmt's text TOLD by the authors' own Lean function (tested against real Go, not proved from fmt's source: count such statements apart). THE CARD IS WHAT COUNTS. Prove the row's statement (the work); the ties are given (YtccgfjkahdbboaaDoorTie.lean); close each card by the builder's one call (the guide's Derived/Test/ToyasCard.lean, 'card_holds'). Laid BY PROGRAM, IN A SANDBOX (cutbox-door.mjs). By AI agents, Wed Nov 11 2026. No macro, syntax, notation, axiom, sorry.
-/
import Derived.Test.YtccgfjkahdbboaaDoorRows
import GoSem.ClaimSeven
namespace Go.Proofs.YtccgfjkahdbboaaDoor
namespace Rows

/-- THE TIED CARD OF 'tallysticklaw07.TxApart'. -/
def txApartCard : Claim7 := { stood := { row := txApartRow, standIns := [], harness := (true, "8e059a342e06df513c4e9c7930794cd5a165ed5207b3d8c49b24ec193045855e"), looks := false }, kinds := [], alts := [], laidByText := true, laidKinds := [.data, .data], laidTests := true, laidLooks := .later }
def TxApartCardSaid : Prop := Claim7.holds Tryd.pinned (.plain (OpenSpec.ofChange txApartSpec)) txApartCard

/-- THE TIED CARD OF 'tallysticklaw07.TxBytes'. -/
def txBytesCard : Claim7 := { stood := { row := txBytesRow, standIns := [], harness := (true, "8e059a342e06df513c4e9c7930794cd5a165ed5207b3d8c49b24ec193045855e"), looks := false }, kinds := [], alts := [], laidByText := true, laidKinds := [.data, .data], laidTests := true, laidLooks := .later }
def TxBytesCardSaid : Prop := Claim7.holds Tryd.pinned (.plain (OpenSpec.ofChange txBytesSpec)) txBytesCard

/-- THE TIED CARD OF 'tallysticklaw07.TxOwn'. -/
def txOwnCard : Claim7 := { stood := { row := txOwnRow, standIns := [], harness := (true, "8e059a342e06df513c4e9c7930794cd5a165ed5207b3d8c49b24ec193045855e"), looks := false }, kinds := [], alts := [], laidByText := true, laidKinds := [.data, .data], laidTests := true, laidLooks := .later }
def TxOwnCardSaid : Prop := Claim7.holds Tryd.pinned (.plain (OpenSpec.ofChange txOwnSpec)) txOwnCard

/-- THE TIED CARD OF 'tallysticklaw07.TxReads'. -/
def txReadsCard : Claim7 := { stood := { row := txReadsRow, standIns := [], harness := (true, "8e059a342e06df513c4e9c7930794cd5a165ed5207b3d8c49b24ec193045855e"), looks := false }, kinds := [], alts := [], laidByText := true, laidKinds := [.data, .data], laidTests := true, laidLooks := .later }
def TxReadsCardSaid : Prop := Claim7.holds Tryd.pinned (.plain (OpenSpec.ofChange txReadsSpec)) txReadsCard

/-- THE TIED CARD OF 'tallysticklaw07.TxRoots'. -/
def txRootsCard : Claim7 := { stood := { row := txRootsRow, standIns := [], harness := (true, "8e059a342e06df513c4e9c7930794cd5a165ed5207b3d8c49b24ec193045855e"), looks := false }, kinds := [], alts := [], laidByText := true, laidKinds := [.data, .data], laidTests := true, laidLooks := .later }
def TxRootsCardSaid : Prop := Claim7.holds Tryd.pinned (.plain (OpenSpec.ofChange txRootsSpec)) txRootsCard

/-- THE TIED CARD OF 'tallysticklaw07.TxCuts'. -/
def txCutsCard : Claim7 := { stood := { row := txCutsRow, standIns := [], harness := (true, "8e059a342e06df513c4e9c7930794cd5a165ed5207b3d8c49b24ec193045855e"), looks := false }, kinds := [], alts := [], laidByText := true, laidKinds := [.data, .data], laidTests := true, laidLooks := .later }
def TxCutsCardSaid : Prop := Claim7.holds Tryd.pinned (.plain (OpenSpec.ofChange txCutsSpec)) txCutsCard

/-- THE TIED CARD OF 'tallysticklaw07.TxBlocks'. -/
def txBlocksCard : Claim7 := { stood := { row := txBlocksRow, standIns := [], harness := (true, "8e059a342e06df513c4e9c7930794cd5a165ed5207b3d8c49b24ec193045855e"), looks := false }, kinds := [], alts := [], laidByText := true, laidKinds := [.data, .data], laidTests := true, laidLooks := .later }
def TxBlocksCardSaid : Prop := Claim7.holds Tryd.pinned (.plain (OpenSpec.ofChange txBlocksSpec)) txBlocksCard

/-- THE SECOND FORM's CARD OF 'tallysticklaw07.TxApart'. -/
def txApartUptoCard : Claim7 := { stood := { row := txApartUptoRow, standIns := [], harness := (true, "8e059a342e06df513c4e9c7930794cd5a165ed5207b3d8c49b24ec193045855e"), looks := false }, kinds := [], alts := [], laidByText := true, laidKinds := [.data, .data], laidTests := true, laidLooks := .later }
def TxApartUptoCardSaid : Prop := Claim7.holds Tryd.pinned (.plain (OpenSpec.upto txApartSpec)) txApartUptoCard

/-- THE SECOND FORM's CARD OF 'tallysticklaw07.TxBytes'. -/
def txBytesUptoCard : Claim7 := { stood := { row := txBytesUptoRow, standIns := [], harness := (true, "8e059a342e06df513c4e9c7930794cd5a165ed5207b3d8c49b24ec193045855e"), looks := false }, kinds := [], alts := [], laidByText := true, laidKinds := [.data, .data], laidTests := true, laidLooks := .later }
def TxBytesUptoCardSaid : Prop := Claim7.holds Tryd.pinned (.plain (OpenSpec.upto txBytesSpec)) txBytesUptoCard

/-- THE SECOND FORM's CARD OF 'tallysticklaw07.TxOwn'. -/
def txOwnUptoCard : Claim7 := { stood := { row := txOwnUptoRow, standIns := [], harness := (true, "8e059a342e06df513c4e9c7930794cd5a165ed5207b3d8c49b24ec193045855e"), looks := false }, kinds := [], alts := [], laidByText := true, laidKinds := [.data, .data], laidTests := true, laidLooks := .later }
def TxOwnUptoCardSaid : Prop := Claim7.holds Tryd.pinned (.plain (OpenSpec.upto txOwnSpec)) txOwnUptoCard

/-- THE SECOND FORM's CARD OF 'tallysticklaw07.TxReads'. -/
def txReadsUptoCard : Claim7 := { stood := { row := txReadsUptoRow, standIns := [], harness := (true, "8e059a342e06df513c4e9c7930794cd5a165ed5207b3d8c49b24ec193045855e"), looks := false }, kinds := [], alts := [], laidByText := true, laidKinds := [.data, .data], laidTests := true, laidLooks := .later }
def TxReadsUptoCardSaid : Prop := Claim7.holds Tryd.pinned (.plain (OpenSpec.upto txReadsSpec)) txReadsUptoCard

/-- THE SECOND FORM's CARD OF 'tallysticklaw07.TxRoots'. -/
def txRootsUptoCard : Claim7 := { stood := { row := txRootsUptoRow, standIns := [], harness := (true, "8e059a342e06df513c4e9c7930794cd5a165ed5207b3d8c49b24ec193045855e"), looks := false }, kinds := [], alts := [], laidByText := true, laidKinds := [.data, .data], laidTests := true, laidLooks := .later }
def TxRootsUptoCardSaid : Prop := Claim7.holds Tryd.pinned (.plain (OpenSpec.upto txRootsSpec)) txRootsUptoCard

/-- THE SECOND FORM's CARD OF 'tallysticklaw07.TxCuts'. -/
def txCutsUptoCard : Claim7 := { stood := { row := txCutsUptoRow, standIns := [], harness := (true, "8e059a342e06df513c4e9c7930794cd5a165ed5207b3d8c49b24ec193045855e"), looks := false }, kinds := [], alts := [], laidByText := true, laidKinds := [.data, .data], laidTests := true, laidLooks := .later }
def TxCutsUptoCardSaid : Prop := Claim7.holds Tryd.pinned (.plain (OpenSpec.upto txCutsSpec)) txCutsUptoCard

/-- THE SECOND FORM's CARD OF 'tallysticklaw07.TxBlocks'. -/
def txBlocksUptoCard : Claim7 := { stood := { row := txBlocksUptoRow, standIns := [], harness := (true, "8e059a342e06df513c4e9c7930794cd5a165ed5207b3d8c49b24ec193045855e"), looks := false }, kinds := [], alts := [], laidByText := true, laidKinds := [.data, .data], laidTests := true, laidLooks := .later }
def TxBlocksUptoCardSaid : Prop := Claim7.holds Tryd.pinned (.plain (OpenSpec.upto txBlocksSpec)) txBlocksUptoCard
end Rows
end Go.Proofs.YtccgfjkahdbboaaDoor
