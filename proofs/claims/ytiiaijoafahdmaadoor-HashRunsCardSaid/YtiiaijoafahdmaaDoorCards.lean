/-
  DERIVED. GIVEN WITH THE SEED: THE CARDS: each row of YtiiaijoafahdmaaDoorRows.lean that lists a variable, with what it lists TIED to the program's text (the seventh form; the later family's looks); each row that meets fmt, with fmt's text TOLD by the authors' own Lean function (tested against real Go, not proved from fmt's source: count such statements apart). THE CARD IS WHAT COUNTS. Prove the row's statement (the work); the ties are given (YtiiaijoafahdmaaDoorTie.lean); close each card by the builder's one call (the guide's Derived/Test/ToyasCard.lean, 'card_holds'). Laid BY PROGRAM, IN A SANDBOX (cutbox-door.mjs). By AI agents, Wed Nov 11 2026. No macro, syntax, notation, axiom, sorry.
-/
import Derived.Test.YtiiaijoafahdmaaDoorRows
import GoSem.ClaimSeven
namespace Go.Proofs.YtiiaijoafahdmaaDoor
namespace Rows

/-- THE TIED CARD OF 'tallysticklaw01.HashOf'. -/
def hashOfCard : Claim7 := { stood := { row := hashOfRow, standIns := [], harness := (true, "daf69b771e61c0eec68c8dfffaad10df9736225f6befd3bcbb4bb3139e7d0e6a"), looks := false }, kinds := [], alts := [], laidByText := true, laidKinds := [.data, .data], laidTests := true, laidLooks := .later }
def HashOfCardSaid : Prop := Claim7.holds Tryd.pinned (.plain (OpenSpec.ofChange hashOfSpec)) hashOfCard

/-- THE TIED CARD OF 'tallysticklaw01.HashParts'. -/
def hashPartsCard : Claim7 := { stood := { row := hashPartsRow, standIns := [], harness := (true, "daf69b771e61c0eec68c8dfffaad10df9736225f6befd3bcbb4bb3139e7d0e6a"), looks := false }, kinds := [], alts := [], laidByText := true, laidKinds := [.data, .data], laidTests := true, laidLooks := .later }
def HashPartsCardSaid : Prop := Claim7.holds Tryd.pinned (.plain (OpenSpec.ofChange hashPartsSpec)) hashPartsCard

/-- THE TIED CARD OF 'tallysticklaw01.HashTwice'. -/
def hashTwiceCard : Claim7 := { stood := { row := hashTwiceRow, standIns := [], harness := (true, "daf69b771e61c0eec68c8dfffaad10df9736225f6befd3bcbb4bb3139e7d0e6a"), looks := false }, kinds := [], alts := [], laidByText := true, laidKinds := [.data, .data], laidTests := true, laidLooks := .later }
def HashTwiceCardSaid : Prop := Claim7.holds Tryd.pinned (.plain (OpenSpec.ofChange hashTwiceSpec)) hashTwiceCard

/-- THE TIED CARD OF 'tallysticklaw01.HashRuns'. -/
def hashRunsCard : Claim7 := { stood := { row := hashRunsRow, standIns := [], harness := (true, "daf69b771e61c0eec68c8dfffaad10df9736225f6befd3bcbb4bb3139e7d0e6a"), looks := false }, kinds := [], alts := [], laidByText := true, laidKinds := [.data, .data], laidTests := true, laidLooks := .later }
def HashRunsCardSaid : Prop := Claim7.holds Tryd.pinned (.plain (OpenSpec.ofChange hashRunsSpec)) hashRunsCard

/-- THE TIED CARD OF 'tallysticklaw01.HashNumbers'. -/
def hashNumbersCard : Claim7 := { stood := { row := hashNumbersRow, standIns := [], harness := (true, "daf69b771e61c0eec68c8dfffaad10df9736225f6befd3bcbb4bb3139e7d0e6a"), looks := false }, kinds := [], alts := [], laidByText := true, laidKinds := [.data, .data], laidTests := true, laidLooks := .later }
def HashNumbersCardSaid : Prop := Claim7.holds Tryd.pinned (.plain (OpenSpec.ofChange hashNumbersSpec)) hashNumbersCard

/-- THE TIED CARD OF 'tallysticklaw01.HashBlocks'. -/
def hashBlocksCard : Claim7 := { stood := { row := hashBlocksRow, standIns := [], harness := (true, "daf69b771e61c0eec68c8dfffaad10df9736225f6befd3bcbb4bb3139e7d0e6a"), looks := false }, kinds := [], alts := [], laidByText := true, laidKinds := [.data, .data], laidTests := true, laidLooks := .later }
def HashBlocksCardSaid : Prop := Claim7.holds Tryd.pinned (.plain (OpenSpec.ofChange hashBlocksSpec)) hashBlocksCard

/-- THE TIED CARD OF 'tallysticklaw01.HashOwn'. -/
def hashOwnCard : Claim7 := { stood := { row := hashOwnRow, standIns := [], harness := (true, "daf69b771e61c0eec68c8dfffaad10df9736225f6befd3bcbb4bb3139e7d0e6a"), looks := false }, kinds := [], alts := [], laidByText := true, laidKinds := [.data, .data], laidTests := true, laidLooks := .later }
def HashOwnCardSaid : Prop := Claim7.holds Tryd.pinned (.plain (OpenSpec.ofChange hashOwnSpec)) hashOwnCard

/-- THE SECOND FORM's CARD OF 'tallysticklaw01.HashOf'. -/
def hashOfUptoCard : Claim7 := { stood := { row := hashOfUptoRow, standIns := [], harness := (true, "daf69b771e61c0eec68c8dfffaad10df9736225f6befd3bcbb4bb3139e7d0e6a"), looks := false }, kinds := [], alts := [], laidByText := true, laidKinds := [.data, .data], laidTests := true, laidLooks := .later }
def HashOfUptoCardSaid : Prop := Claim7.holds Tryd.pinned (.plain (OpenSpec.upto hashOfSpec)) hashOfUptoCard

/-- THE SECOND FORM's CARD OF 'tallysticklaw01.HashParts'. -/
def hashPartsUptoCard : Claim7 := { stood := { row := hashPartsUptoRow, standIns := [], harness := (true, "daf69b771e61c0eec68c8dfffaad10df9736225f6befd3bcbb4bb3139e7d0e6a"), looks := false }, kinds := [], alts := [], laidByText := true, laidKinds := [.data, .data], laidTests := true, laidLooks := .later }
def HashPartsUptoCardSaid : Prop := Claim7.holds Tryd.pinned (.plain (OpenSpec.upto hashPartsSpec)) hashPartsUptoCard

/-- THE SECOND FORM's CARD OF 'tallysticklaw01.HashTwice'. -/
def hashTwiceUptoCard : Claim7 := { stood := { row := hashTwiceUptoRow, standIns := [], harness := (true, "daf69b771e61c0eec68c8dfffaad10df9736225f6befd3bcbb4bb3139e7d0e6a"), looks := false }, kinds := [], alts := [], laidByText := true, laidKinds := [.data, .data], laidTests := true, laidLooks := .later }
def HashTwiceUptoCardSaid : Prop := Claim7.holds Tryd.pinned (.plain (OpenSpec.upto hashTwiceSpec)) hashTwiceUptoCard

/-- THE SECOND FORM's CARD OF 'tallysticklaw01.HashRuns'. -/
def hashRunsUptoCard : Claim7 := { stood := { row := hashRunsUptoRow, standIns := [], harness := (true, "daf69b771e61c0eec68c8dfffaad10df9736225f6befd3bcbb4bb3139e7d0e6a"), looks := false }, kinds := [], alts := [], laidByText := true, laidKinds := [.data, .data], laidTests := true, laidLooks := .later }
def HashRunsUptoCardSaid : Prop := Claim7.holds Tryd.pinned (.plain (OpenSpec.upto hashRunsSpec)) hashRunsUptoCard

/-- THE SECOND FORM's CARD OF 'tallysticklaw01.HashNumbers'. -/
def hashNumbersUptoCard : Claim7 := { stood := { row := hashNumbersUptoRow, standIns := [], harness := (true, "daf69b771e61c0eec68c8dfffaad10df9736225f6befd3bcbb4bb3139e7d0e6a"), looks := false }, kinds := [], alts := [], laidByText := true, laidKinds := [.data, .data], laidTests := true, laidLooks := .later }
def HashNumbersUptoCardSaid : Prop := Claim7.holds Tryd.pinned (.plain (OpenSpec.upto hashNumbersSpec)) hashNumbersUptoCard

/-- THE SECOND FORM's CARD OF 'tallysticklaw01.HashBlocks'. -/
def hashBlocksUptoCard : Claim7 := { stood := { row := hashBlocksUptoRow, standIns := [], harness := (true, "daf69b771e61c0eec68c8dfffaad10df9736225f6befd3bcbb4bb3139e7d0e6a"), looks := false }, kinds := [], alts := [], laidByText := true, laidKinds := [.data, .data], laidTests := true, laidLooks := .later }
def HashBlocksUptoCardSaid : Prop := Claim7.holds Tryd.pinned (.plain (OpenSpec.upto hashBlocksSpec)) hashBlocksUptoCard

/-- THE SECOND FORM's CARD OF 'tallysticklaw01.HashOwn'. -/
def hashOwnUptoCard : Claim7 := { stood := { row := hashOwnUptoRow, standIns := [], harness := (true, "daf69b771e61c0eec68c8dfffaad10df9736225f6befd3bcbb4bb3139e7d0e6a"), looks := false }, kinds := [], alts := [], laidByText := true, laidKinds := [.data, .data], laidTests := true, laidLooks := .later }
def HashOwnUptoCardSaid : Prop := Claim7.holds Tryd.pinned (.plain (OpenSpec.upto hashOwnSpec)) hashOwnUptoCard
end Rows
end Go.Proofs.YtiiaijoafahdmaaDoor
