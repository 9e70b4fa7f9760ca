/-
  DERIVED. GIVEN WITH THE SEED: THE CARDS: each row of YtpemljbdmbinlaaDoorRows.lean that lists a variable, with what it lists TIED to the program's text (the seventh form; the later family's looks); each row that meets fmt, with fmt's text TOLD by the authors' own Lean function (tested against real Go, not proved from fmt's source: count such statements apart). THE CARD IS WHAT COUNTS. Prove the row's statement (the work); the ties are given (YtpemljbdmbinlaaDoorTie.lean); close each card by the builder's one call (the guide's Derived/Test/ToyasCard.lean, 'card_holds'). Laid BY PROGRAM, IN A SANDBOX (cutbox-door.mjs). By AI agents, Wed Nov 11 2026. No macro, syntax, notation, axiom, sorry.
-/
import Derived.Test.YtpemljbdmbinlaaDoorRows
import GoSem.ClaimSeven
namespace Go.Proofs.YtpemljbdmbinlaaDoor
namespace Rows

/-- THE TIED CARD OF 'tallysticklaw12.CheckMoney'. -/
def checkMoneyCard : Claim7 := { stood := { row := checkMoneyRow, standIns := [], harness := (true, "c5570a0220b79cfa7a2d75c17c6b9fc449e61430583c0dc0b9cc3cf7aea6152f"), looks := false }, kinds := [], alts := [], laidByText := true, laidKinds := [.data, .data], laidTests := true, laidLooks := .later }
def CheckMoneyCardSaid : Prop := Claim7.holds Tryd.pinned (.plain (OpenSpec.ofChange checkMoneySpec)) checkMoneyCard

/-- THE TIED CARD OF 'tallysticklaw12.CheckOrder'. -/
def checkOrderCard : Claim7 := { stood := { row := checkOrderRow, standIns := [], harness := (true, "c5570a0220b79cfa7a2d75c17c6b9fc449e61430583c0dc0b9cc3cf7aea6152f"), looks := false }, kinds := [], alts := [], laidByText := true, laidKinds := [.data, .data], laidTests := true, laidLooks := .later }
def CheckOrderCardSaid : Prop := Claim7.holds Tryd.pinned (.plain (OpenSpec.ofChange checkOrderSpec)) checkOrderCard

/-- THE TIED CARD OF 'tallysticklaw12.CheckRoots'. -/
def checkRootsCard : Claim7 := { stood := { row := checkRootsRow, standIns := [], harness := (true, "c5570a0220b79cfa7a2d75c17c6b9fc449e61430583c0dc0b9cc3cf7aea6152f"), looks := false }, kinds := [], alts := [], laidByText := true, laidKinds := [.data, .data], laidTests := true, laidLooks := .later }
def CheckRootsCardSaid : Prop := Claim7.holds Tryd.pinned (.plain (OpenSpec.ofChange checkRootsSpec)) checkRootsCard

/-- THE TIED CARD OF 'tallysticklaw12.CheckPairs'. -/
def checkPairsCard : Claim7 := { stood := { row := checkPairsRow, standIns := [], harness := (true, "c5570a0220b79cfa7a2d75c17c6b9fc449e61430583c0dc0b9cc3cf7aea6152f"), looks := false }, kinds := [], alts := [], laidByText := true, laidKinds := [.data, .data], laidTests := true, laidLooks := .later }
def CheckPairsCardSaid : Prop := Claim7.holds Tryd.pinned (.plain (OpenSpec.ofChange checkPairsSpec)) checkPairsCard

/-- THE TIED CARD OF 'tallysticklaw12.CheckDoubled'. -/
def checkDoubledCard : Claim7 := { stood := { row := checkDoubledRow, standIns := [], harness := (true, "c5570a0220b79cfa7a2d75c17c6b9fc449e61430583c0dc0b9cc3cf7aea6152f"), looks := false }, kinds := [], alts := [], laidByText := true, laidKinds := [.data, .data], laidTests := true, laidLooks := .later }
def CheckDoubledCardSaid : Prop := Claim7.holds Tryd.pinned (.plain (OpenSpec.ofChange checkDoubledSpec)) checkDoubledCard

/-- THE TIED CARD OF 'tallysticklaw12.CheckTxs'. -/
def checkTxsCard : Claim7 := { stood := { row := checkTxsRow, standIns := [], harness := (true, "c5570a0220b79cfa7a2d75c17c6b9fc449e61430583c0dc0b9cc3cf7aea6152f"), looks := false }, kinds := [], alts := [], laidByText := true, laidKinds := [.data, .data], laidTests := true, laidLooks := .later }
def CheckTxsCardSaid : Prop := Claim7.holds Tryd.pinned (.plain (OpenSpec.ofChange checkTxsSpec)) checkTxsCard

/-- THE TIED CARD OF 'tallysticklaw12.CheckBlocks'. -/
def checkBlocksCard : Claim7 := { stood := { row := checkBlocksRow, standIns := [], harness := (true, "c5570a0220b79cfa7a2d75c17c6b9fc449e61430583c0dc0b9cc3cf7aea6152f"), looks := false }, kinds := [], alts := [], laidByText := true, laidKinds := [.data, .data], laidTests := true, laidLooks := .later }
def CheckBlocksCardSaid : Prop := Claim7.holds Tryd.pinned (.plain (OpenSpec.ofChange checkBlocksSpec)) checkBlocksCard

/-- THE TIED CARD OF 'tallysticktop.WholeBlocks'. -/
def wholeBlocksCard : Claim7 := { stood := { row := wholeBlocksRow, standIns := [], harness := (true, "c5570a0220b79cfa7a2d75c17c6b9fc449e61430583c0dc0b9cc3cf7aea6152f"), looks := false }, kinds := [], alts := [], laidByText := true, laidKinds := [.data, .data], laidTests := true, laidLooks := .later }
def WholeBlocksCardSaid : Prop := Claim7.holds Tryd.pinned (.plain (OpenSpec.ofChange wholeBlocksSpec)) wholeBlocksCard

/-- THE TIED CARD OF 'tallysticklaw13.CoinsClone'. -/
def coinsCloneCard : Claim7 := { stood := { row := coinsCloneRow, standIns := [], harness := (true, "c5570a0220b79cfa7a2d75c17c6b9fc449e61430583c0dc0b9cc3cf7aea6152f"), looks := false }, kinds := [], alts := [], laidByText := true, laidKinds := [.data, .data], laidTests := true, laidLooks := .later }
def CoinsCloneCardSaid : Prop := Claim7.holds Tryd.pinned (.plain (OpenSpec.ofChange coinsCloneSpec)) coinsCloneCard

/-- THE TIED CARD OF 'tallysticklaw13.CoinsLock'. -/
def coinsLockCard : Claim7 := { stood := { row := coinsLockRow, standIns := [], harness := (true, "c5570a0220b79cfa7a2d75c17c6b9fc449e61430583c0dc0b9cc3cf7aea6152f"), looks := false }, kinds := [], alts := [], laidByText := true, laidKinds := [.data, .data], laidTests := true, laidLooks := .later }
def CoinsLockCardSaid : Prop := Claim7.holds Tryd.pinned (.plain (OpenSpec.ofChange coinsLockSpec)) coinsLockCard

/-- THE TIED CARD OF 'tallysticklaw13.CoinsFees'. -/
def coinsFeesCard : Claim7 := { stood := { row := coinsFeesRow, standIns := [], harness := (true, "c5570a0220b79cfa7a2d75c17c6b9fc449e61430583c0dc0b9cc3cf7aea6152f"), looks := false }, kinds := [], alts := [], laidByText := true, laidKinds := [.data, .data], laidTests := true, laidLooks := .later }
def CoinsFeesCardSaid : Prop := Claim7.holds Tryd.pinned (.plain (OpenSpec.ofChange coinsFeesSpec)) coinsFeesCard

/-- THE TIED CARD OF 'tallysticklaw13.CoinsSum'. -/
def coinsSumCard : Claim7 := { stood := { row := coinsSumRow, standIns := [], harness := (true, "c5570a0220b79cfa7a2d75c17c6b9fc449e61430583c0dc0b9cc3cf7aea6152f"), looks := false }, kinds := [], alts := [], laidByText := true, laidKinds := [.data, .data], laidTests := true, laidLooks := .later }
def CoinsSumCardSaid : Prop := Claim7.holds Tryd.pinned (.plain (OpenSpec.ofChange coinsSumSpec)) coinsSumCard

/-- THE TIED CARD OF 'tallysticklaw13.CoinsBack'. -/
def coinsBackCard : Claim7 := { stood := { row := coinsBackRow, standIns := [], harness := (true, "c5570a0220b79cfa7a2d75c17c6b9fc449e61430583c0dc0b9cc3cf7aea6152f"), looks := false }, kinds := [], alts := [], laidByText := true, laidKinds := [.data, .data], laidTests := true, laidLooks := .later }
def CoinsBackCardSaid : Prop := Claim7.holds Tryd.pinned (.plain (OpenSpec.ofChange coinsBackSpec)) coinsBackCard

/-- THE TIED CARD OF 'tallysticklaw13.CoinsPlay'. -/
def coinsPlayCard : Claim7 := { stood := { row := coinsPlayRow, standIns := [], harness := (true, "c5570a0220b79cfa7a2d75c17c6b9fc449e61430583c0dc0b9cc3cf7aea6152f"), looks := false }, kinds := [], alts := [], laidByText := true, laidKinds := [.data, .data], laidTests := true, laidLooks := .later }
def CoinsPlayCardSaid : Prop := Claim7.holds Tryd.pinned (.plain (OpenSpec.ofChange coinsPlaySpec)) coinsPlayCard

/-- THE SECOND FORM's CARD OF 'tallysticklaw12.CheckMoney'. -/
def checkMoneyUptoCard : Claim7 := { stood := { row := checkMoneyUptoRow, standIns := [], harness := (true, "c5570a0220b79cfa7a2d75c17c6b9fc449e61430583c0dc0b9cc3cf7aea6152f"), looks := false }, kinds := [], alts := [], laidByText := true, laidKinds := [.data, .data], laidTests := true, laidLooks := .later }
def CheckMoneyUptoCardSaid : Prop := Claim7.holds Tryd.pinned (.plain (OpenSpec.upto checkMoneySpec)) checkMoneyUptoCard

/-- THE SECOND FORM's CARD OF 'tallysticklaw12.CheckOrder'. -/
def checkOrderUptoCard : Claim7 := { stood := { row := checkOrderUptoRow, standIns := [], harness := (true, "c5570a0220b79cfa7a2d75c17c6b9fc449e61430583c0dc0b9cc3cf7aea6152f"), looks := false }, kinds := [], alts := [], laidByText := true, laidKinds := [.data, .data], laidTests := true, laidLooks := .later }
def CheckOrderUptoCardSaid : Prop := Claim7.holds Tryd.pinned (.plain (OpenSpec.upto checkOrderSpec)) checkOrderUptoCard

/-- THE SECOND FORM's CARD OF 'tallysticklaw12.CheckRoots'. -/
def checkRootsUptoCard : Claim7 := { stood := { row := checkRootsUptoRow, standIns := [], harness := (true, "c5570a0220b79cfa7a2d75c17c6b9fc449e61430583c0dc0b9cc3cf7aea6152f"), looks := false }, kinds := [], alts := [], laidByText := true, laidKinds := [.data, .data], laidTests := true, laidLooks := .later }
def CheckRootsUptoCardSaid : Prop := Claim7.holds Tryd.pinned (.plain (OpenSpec.upto checkRootsSpec)) checkRootsUptoCard

/-- THE SECOND FORM's CARD OF 'tallysticklaw12.CheckPairs'. -/
def checkPairsUptoCard : Claim7 := { stood := { row := checkPairsUptoRow, standIns := [], harness := (true, "c5570a0220b79cfa7a2d75c17c6b9fc449e61430583c0dc0b9cc3cf7aea6152f"), looks := false }, kinds := [], alts := [], laidByText := true, laidKinds := [.data, .data], laidTests := true, laidLooks := .later }
def CheckPairsUptoCardSaid : Prop := Claim7.holds Tryd.pinned (.plain (OpenSpec.upto checkPairsSpec)) checkPairsUptoCard

/-- THE SECOND FORM's CARD OF 'tallysticklaw12.CheckDoubled'. -/
def checkDoubledUptoCard : Claim7 := { stood := { row := checkDoubledUptoRow, standIns := [], harness := (true, "c5570a0220b79cfa7a2d75c17c6b9fc449e61430583c0dc0b9cc3cf7aea6152f"), looks := false }, kinds := [], alts := [], laidByText := true, laidKinds := [.data, .data], laidTests := true, laidLooks := .later }
def CheckDoubledUptoCardSaid : Prop := Claim7.holds Tryd.pinned (.plain (OpenSpec.upto checkDoubledSpec)) checkDoubledUptoCard

/-- THE SECOND FORM's CARD OF 'tallysticklaw12.CheckTxs'. -/
def checkTxsUptoCard : Claim7 := { stood := { row := checkTxsUptoRow, standIns := [], harness := (true, "c5570a0220b79cfa7a2d75c17c6b9fc449e61430583c0dc0b9cc3cf7aea6152f"), looks := false }, kinds := [], alts := [], laidByText := true, laidKinds := [.data, .data], laidTests := true, laidLooks := .later }
def CheckTxsUptoCardSaid : Prop := Claim7.holds Tryd.pinned (.plain (OpenSpec.upto checkTxsSpec)) checkTxsUptoCard

/-- THE SECOND FORM's CARD OF 'tallysticklaw12.CheckBlocks'. -/
def checkBlocksUptoCard : Claim7 := { stood := { row := checkBlocksUptoRow, standIns := [], harness := (true, "c5570a0220b79cfa7a2d75c17c6b9fc449e61430583c0dc0b9cc3cf7aea6152f"), looks := false }, kinds := [], alts := [], laidByText := true, laidKinds := [.data, .data], laidTests := true, laidLooks := .later }
def CheckBlocksUptoCardSaid : Prop := Claim7.holds Tryd.pinned (.plain (OpenSpec.upto checkBlocksSpec)) checkBlocksUptoCard

/-- THE SECOND FORM's CARD OF 'tallysticktop.WholeBlocks'. -/
def wholeBlocksUptoCard : Claim7 := { stood := { row := wholeBlocksUptoRow, standIns := [], harness := (true, "c5570a0220b79cfa7a2d75c17c6b9fc449e61430583c0dc0b9cc3cf7aea6152f"), looks := false }, kinds := [], alts := [], laidByText := true, laidKinds := [.data, .data], laidTests := true, laidLooks := .later }
def WholeBlocksUptoCardSaid : Prop := Claim7.holds Tryd.pinned (.plain (OpenSpec.upto wholeBlocksSpec)) wholeBlocksUptoCard

/-- THE SECOND FORM's CARD OF 'tallysticklaw13.CoinsClone'. -/
def coinsCloneUptoCard : Claim7 := { stood := { row := coinsCloneUptoRow, standIns := [], harness := (true, "c5570a0220b79cfa7a2d75c17c6b9fc449e61430583c0dc0b9cc3cf7aea6152f"), looks := false }, kinds := [], alts := [], laidByText := true, laidKinds := [.data, .data], laidTests := true, laidLooks := .later }
def CoinsCloneUptoCardSaid : Prop := Claim7.holds Tryd.pinned (.plain (OpenSpec.upto coinsCloneSpec)) coinsCloneUptoCard

/-- THE SECOND FORM's CARD OF 'tallysticklaw13.CoinsLock'. -/
def coinsLockUptoCard : Claim7 := { stood := { row := coinsLockUptoRow, standIns := [], harness := (true, "c5570a0220b79cfa7a2d75c17c6b9fc449e61430583c0dc0b9cc3cf7aea6152f"), looks := false }, kinds := [], alts := [], laidByText := true, laidKinds := [.data, .data], laidTests := true, laidLooks := .later }
def CoinsLockUptoCardSaid : Prop := Claim7.holds Tryd.pinned (.plain (OpenSpec.upto coinsLockSpec)) coinsLockUptoCard

/-- THE SECOND FORM's CARD OF 'tallysticklaw13.CoinsFees'. -/
def coinsFeesUptoCard : Claim7 := { stood := { row := coinsFeesUptoRow, standIns := [], harness := (true, "c5570a0220b79cfa7a2d75c17c6b9fc449e61430583c0dc0b9cc3cf7aea6152f"), looks := false }, kinds := [], alts := [], laidByText := true, laidKinds := [.data, .data], laidTests := true, laidLooks := .later }
def CoinsFeesUptoCardSaid : Prop := Claim7.holds Tryd.pinned (.plain (OpenSpec.upto coinsFeesSpec)) coinsFeesUptoCard

/-- THE SECOND FORM's CARD OF 'tallysticklaw13.CoinsSum'. -/
def coinsSumUptoCard : Claim7 := { stood := { row := coinsSumUptoRow, standIns := [], harness := (true, "c5570a0220b79cfa7a2d75c17c6b9fc449e61430583c0dc0b9cc3cf7aea6152f"), looks := false }, kinds := [], alts := [], laidByText := true, laidKinds := [.data, .data], laidTests := true, laidLooks := .later }
def CoinsSumUptoCardSaid : Prop := Claim7.holds Tryd.pinned (.plain (OpenSpec.upto coinsSumSpec)) coinsSumUptoCard

/-- THE SECOND FORM's CARD OF 'tallysticklaw13.CoinsBack'. -/
def coinsBackUptoCard : Claim7 := { stood := { row := coinsBackUptoRow, standIns := [], harness := (true, "c5570a0220b79cfa7a2d75c17c6b9fc449e61430583c0dc0b9cc3cf7aea6152f"), looks := false }, kinds := [], alts := [], laidByText := true, laidKinds := [.data, .data], laidTests := true, laidLooks := .later }
def CoinsBackUptoCardSaid : Prop := Claim7.holds Tryd.pinned (.plain (OpenSpec.upto coinsBackSpec)) coinsBackUptoCard

/-- THE SECOND FORM's CARD OF 'tallysticklaw13.CoinsPlay'. -/
def coinsPlayUptoCard : Claim7 := { stood := { row := coinsPlayUptoRow, standIns := [], harness := (true, "c5570a0220b79cfa7a2d75c17c6b9fc449e61430583c0dc0b9cc3cf7aea6152f"), looks := false }, kinds := [], alts := [], laidByText := true, laidKinds := [.data, .data], laidTests := true, laidLooks := .later }
def CoinsPlayUptoCardSaid : Prop := Claim7.holds Tryd.pinned (.plain (OpenSpec.upto coinsPlaySpec)) coinsPlayUptoCard
end Rows
end Go.Proofs.YtpemljbdmbinlaaDoor
