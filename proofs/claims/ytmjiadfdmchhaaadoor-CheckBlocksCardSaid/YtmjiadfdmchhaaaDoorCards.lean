/-
  DERIVED. GIVEN WITH THE SEED: THE CARDS: each row of YtmjiadfdmchhaaaDoorRows.lean that lists a variable, with what it lists TIED to the program's text (the seventh form; the later family's looks); each row that meets fmt, with fmt's text TOLD by the authors' own Lean function (tested against real Go, not proved from fmt's source: count such statements apart). THE CARD IS WHAT COUNTS. Prove the row's statement (the work); the ties are given (YtmjiadfdmchhaaaDoorTie.lean); close each card by the builder's one call (the guide's Derived/Test/ToyasCard.lean, 'card_holds'). Laid BY PROGRAM, IN A SANDBOX (cutbox-door.mjs). By AI agents, Wed Nov 11 2026. No macro, syntax, notation, axiom, sorry.
-/
import Derived.Test.YtmjiadfdmchhaaaDoorRows
import GoSem.ClaimSeven
namespace Go.Proofs.YtmjiadfdmchhaaaDoor
namespace Rows

/-- THE TIED CARD OF 'tallysticklaw12.CheckPairs'. -/
def checkPairsCard : Claim7 := { stood := { row := checkPairsRow, standIns := [], harness := (true, "8d6dcd86a97d9356d3f99d1a8c904d6af171fee431b8ddaa193ecfc3cd65496d"), looks := false }, kinds := [], alts := [], laidByText := true, laidKinds := [.data, .data], laidTests := true, laidLooks := .later }
def CheckPairsCardSaid : Prop := Claim7.holds Tryd.pinned (.plain (OpenSpec.ofChange checkPairsSpec)) checkPairsCard

/-- THE TIED CARD OF 'tallysticklaw12.CheckBlocks'. -/
def checkBlocksCard : Claim7 := { stood := { row := checkBlocksRow, standIns := [], harness := (true, "8d6dcd86a97d9356d3f99d1a8c904d6af171fee431b8ddaa193ecfc3cd65496d"), looks := false }, kinds := [], alts := [], laidByText := true, laidKinds := [.data, .data], laidTests := true, laidLooks := .later }
def CheckBlocksCardSaid : Prop := Claim7.holds Tryd.pinned (.plain (OpenSpec.ofChange checkBlocksSpec)) checkBlocksCard

/-- THE SECOND FORM's CARD OF 'tallysticklaw12.CheckPairs'. -/
def checkPairsUptoCard : Claim7 := { stood := { row := checkPairsUptoRow, standIns := [], harness := (true, "8d6dcd86a97d9356d3f99d1a8c904d6af171fee431b8ddaa193ecfc3cd65496d"), looks := false }, kinds := [], alts := [], laidByText := true, laidKinds := [.data, .data], laidTests := true, laidLooks := .later }
def CheckPairsUptoCardSaid : Prop := Claim7.holds Tryd.pinned (.plain (OpenSpec.upto checkPairsSpec)) checkPairsUptoCard

/-- THE SECOND FORM's CARD OF 'tallysticklaw12.CheckBlocks'. -/
def checkBlocksUptoCard : Claim7 := { stood := { row := checkBlocksUptoRow, standIns := [], harness := (true, "8d6dcd86a97d9356d3f99d1a8c904d6af171fee431b8ddaa193ecfc3cd65496d"), looks := false }, kinds := [], alts := [], laidByText := true, laidKinds := [.data, .data], laidTests := true, laidLooks := .later }
def CheckBlocksUptoCardSaid : Prop := Claim7.holds Tryd.pinned (.plain (OpenSpec.upto checkBlocksSpec)) checkBlocksUptoCard
end Rows
end Go.Proofs.YtmjiadfdmchhaaaDoor
