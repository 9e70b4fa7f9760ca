/-
  DERIVED. GIVEN WITH THE SEED: THE CARDS: each row of YtljfhabhenaapaaDoorRows.lean that lists a variable, with what it lists TIED to the program's text (the seventh form; the later family's looks); each row that meets fmt, with fmt's text TOLD by the authors' own Lean function (tested against real Go, not proved from fmt's source: count such statements apart). THE CARD IS WHAT COUNTS. Prove the row's statement (the work); the ties are given (YtljfhabhenaapaaDoorTie.lean); close each card by the builder's one call (the guide's Derived/Test/ToyasCard.lean, 'card_holds'). Laid BY PROGRAM, IN A SANDBOX (cutbox-door.mjs). By AI agents, Wed Nov 11 2026. No macro, syntax, notation, axiom, sorry.
-/
import Derived.Test.YtljfhabhenaapaaDoorRows
import GoSem.ClaimSeven
namespace Go.Proofs.YtljfhabhenaapaaDoor
namespace Rows

/-- THE TIED CARD OF 'tallysticklaw10.IndexSkips'. -/
def indexSkipsCard : Claim7 := { stood := { row := indexSkipsRow, standIns := [], harness := (true, "4ffc1dc8b90628e2d1d559323a5a88668a408865ea295a40780fb34d277d7d88"), looks := false }, kinds := [], alts := [], laidByText := true, laidKinds := [.data, .data], laidTests := true, laidLooks := .later }
def IndexSkipsCardSaid : Prop := Claim7.holds Tryd.pinned (.plain (OpenSpec.ofChange indexSkipsSpec)) indexSkipsCard

/-- THE TIED CARD OF 'tallysticklaw10.IndexFails'. -/
def indexFailsCard : Claim7 := { stood := { row := indexFailsRow, standIns := [], harness := (true, "4ffc1dc8b90628e2d1d559323a5a88668a408865ea295a40780fb34d277d7d88"), looks := false }, kinds := [], alts := [], laidByText := true, laidKinds := [.data, .data], laidTests := true, laidLooks := .later }
def IndexFailsCardSaid : Prop := Claim7.holds Tryd.pinned (.plain (OpenSpec.ofChange indexFailsSpec)) indexFailsCard

/-- THE TIED CARD OF 'tallysticktop.WholeParted'. -/
def wholePartedCard : Claim7 := { stood := { row := wholePartedRow, standIns := [], harness := (true, "4ffc1dc8b90628e2d1d559323a5a88668a408865ea295a40780fb34d277d7d88"), looks := false }, kinds := [], alts := [], laidByText := true, laidKinds := [.data, .data], laidTests := true, laidLooks := .later }
def WholePartedCardSaid : Prop := Claim7.holds Tryd.pinned (.plain (OpenSpec.ofChange wholePartedSpec)) wholePartedCard

/-- THE SECOND FORM's CARD OF 'tallysticklaw10.IndexSkips'. -/
def indexSkipsUptoCard : Claim7 := { stood := { row := indexSkipsUptoRow, standIns := [], harness := (true, "4ffc1dc8b90628e2d1d559323a5a88668a408865ea295a40780fb34d277d7d88"), looks := false }, kinds := [], alts := [], laidByText := true, laidKinds := [.data, .data], laidTests := true, laidLooks := .later }
def IndexSkipsUptoCardSaid : Prop := Claim7.holds Tryd.pinned (.plain (OpenSpec.upto indexSkipsSpec)) indexSkipsUptoCard

/-- THE SECOND FORM's CARD OF 'tallysticklaw10.IndexFails'. -/
def indexFailsUptoCard : Claim7 := { stood := { row := indexFailsUptoRow, standIns := [], harness := (true, "4ffc1dc8b90628e2d1d559323a5a88668a408865ea295a40780fb34d277d7d88"), looks := false }, kinds := [], alts := [], laidByText := true, laidKinds := [.data, .data], laidTests := true, laidLooks := .later }
def IndexFailsUptoCardSaid : Prop := Claim7.holds Tryd.pinned (.plain (OpenSpec.upto indexFailsSpec)) indexFailsUptoCard

/-- THE SECOND FORM's CARD OF 'tallysticktop.WholeParted'. -/
def wholePartedUptoCard : Claim7 := { stood := { row := wholePartedUptoRow, standIns := [], harness := (true, "4ffc1dc8b90628e2d1d559323a5a88668a408865ea295a40780fb34d277d7d88"), looks := false }, kinds := [], alts := [], laidByText := true, laidKinds := [.data, .data], laidTests := true, laidLooks := .later }
def WholePartedUptoCardSaid : Prop := Claim7.holds Tryd.pinned (.plain (OpenSpec.upto wholePartedSpec)) wholePartedUptoCard
end Rows
end Go.Proofs.YtljfhabhenaapaaDoor
