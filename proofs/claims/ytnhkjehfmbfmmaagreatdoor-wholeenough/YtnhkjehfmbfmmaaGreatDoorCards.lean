/-
  DERIVED. GIVEN WITH THE SEED: THE CARDS: each row of YtnhkjehfmbfmmaaGreatDoorRows.lean that lists a variable, with what it lists TIED to the program's text (the seventh form; the later family's looks); each row that meets fmt, with fmt's text TOLD by the authors' own Lean function (tested against real Go, not proved from fmt's source: count such statements apart). THE CARD IS WHAT COUNTS. Prove the row's statement (the work); the ties are given (YtnhkjehfmbfmmaaGreatDoorTie.lean); close each card by the builder's one call (the guide's Derived/Test/ToyasCard.lean, 'card_holds'). Laid BY PROGRAM, IN A SANDBOX (cutbox-door.mjs). By AI agents, Wed Nov 11 2026. No macro, syntax, notation, axiom, sorry.
-/
import Derived.Test.YtnhkjehfmbfmmaaGreatDoorRows
import GoSem.ClaimSeven
namespace Go.Proofs.YtnhkjehfmbfmmaaGreatDoor
namespace Rows

/-- THE TIED CARD OF 'burgagelaw21.RenameKeeps'. -/
def renameKeepsCard : Claim7 := { stood := { row := renameKeepsRow, standIns := [], harness := (true, "e369ff57780e172e0c81c9287b78a83a746f4eb65a0b1c843273bbbb0c0f3023"), looks := true }, kinds := [], alts := [], laidByText := true, laidKinds := [.data, .data], laidTests := true, laidLooks := .later }
def RenameKeepsCardSaid : Prop := Claim7.holds Tryz.pinned (.plain (OpenSpec.ofChange renameKeepsSpec)) renameKeepsCard

/-- THE TIED CARD OF 'burgagelaw25.CheckKinds'. -/
def checkKindsCard : Claim7 := { stood := { row := checkKindsRow, standIns := [], harness := (true, "e369ff57780e172e0c81c9287b78a83a746f4eb65a0b1c843273bbbb0c0f3023"), looks := true }, kinds := [], alts := [], laidByText := true, laidKinds := [.data, .data, .data, .pinned], laidTests := true, laidLooks := .later }
def CheckKindsCardSaid : Prop := Claim7.holds Tryz.pinned (.plain (OpenSpec.ofChange checkKindsSpec)) checkKindsCard

/-- THE TIED CARD OF 'burgagelaw25.CheckFuel'. -/
def checkFuelCard : Claim7 := { stood := { row := checkFuelRow, standIns := [], harness := (true, "e369ff57780e172e0c81c9287b78a83a746f4eb65a0b1c843273bbbb0c0f3023"), looks := true }, kinds := [], alts := [], laidByText := true, laidKinds := [.data, .data, .data, .data, .data, .pinned], laidTests := true, laidLooks := .later }
def CheckFuelCardSaid : Prop := Claim7.holds Tryz.pinned (.plain (OpenSpec.ofChange checkFuelSpec)) checkFuelCard

/-- THE TIED CARD OF 'burgagelaw25.CheckEnough'. -/
def checkEnoughCard : Claim7 := { stood := { row := checkEnoughRow, standIns := [], harness := (true, "e369ff57780e172e0c81c9287b78a83a746f4eb65a0b1c843273bbbb0c0f3023"), looks := true }, kinds := [], alts := [], laidByText := true, laidKinds := [.data, .data, .data, .pinned], laidTests := true, laidLooks := .later }
def CheckEnoughCardSaid : Prop := Claim7.holds Tryz.pinned (.plain (OpenSpec.ofChange checkEnoughSpec)) checkEnoughCard

/-- THE TIED CARD OF 'burgagelaw25.CheckPlaces'. -/
def checkPlacesCard : Claim7 := { stood := { row := checkPlacesRow, standIns := [], harness := (true, "e369ff57780e172e0c81c9287b78a83a746f4eb65a0b1c843273bbbb0c0f3023"), looks := true }, kinds := [], alts := [], laidByText := true, laidKinds := [.data, .data, .data, .data, .data, .pinned], laidTests := true, laidLooks := .later }
def CheckPlacesCardSaid : Prop := Claim7.holds Tryz.pinned (.plain (OpenSpec.ofChange checkPlacesSpec)) checkPlacesCard

/-- THE TIED CARD OF 'burgagetop.WholeNames'. -/
def wholeNamesCard : Claim7 := { stood := { row := wholeNamesRow, standIns := [], harness := (true, "e369ff57780e172e0c81c9287b78a83a746f4eb65a0b1c843273bbbb0c0f3023"), looks := true }, kinds := [], alts := [], laidByText := true, laidKinds := [.data, .data], laidTests := true, laidLooks := .later }
def WholeNamesCardSaid : Prop := Claim7.holds Tryz.pinned (.plain (OpenSpec.ofChange wholeNamesSpec)) wholeNamesCard

/-- THE TIED CARD OF 'burgagetop.WholeEnough'. -/
def wholeEnoughCard : Claim7 := { stood := { row := wholeEnoughRow, standIns := [], harness := (true, "e369ff57780e172e0c81c9287b78a83a746f4eb65a0b1c843273bbbb0c0f3023"), looks := true }, kinds := [], alts := [], laidByText := true, laidKinds := [.data, .data, .data, .data, .data, .pinned], laidTests := true, laidLooks := .later }
def WholeEnoughCardSaid : Prop := Claim7.holds Tryz.pinned (.plain (OpenSpec.ofChange wholeEnoughSpec)) wholeEnoughCard

/-- THE SECOND FORM's CARD OF 'burgagelaw21.RenameKeeps'. -/
def renameKeepsUptoCard : Claim7 := { stood := { row := renameKeepsUptoRow, standIns := [], harness := (true, "e369ff57780e172e0c81c9287b78a83a746f4eb65a0b1c843273bbbb0c0f3023"), looks := true }, kinds := [], alts := [], laidByText := true, laidKinds := [.data, .data], laidTests := true, laidLooks := .later }
def RenameKeepsUptoCardSaid : Prop := Claim7.holds Tryz.pinned (.plain (OpenSpec.upto renameKeepsSpec)) renameKeepsUptoCard

/-- THE SECOND FORM's CARD OF 'burgagelaw25.CheckKinds'. -/
def checkKindsUptoCard : Claim7 := { stood := { row := checkKindsUptoRow, standIns := [], harness := (true, "e369ff57780e172e0c81c9287b78a83a746f4eb65a0b1c843273bbbb0c0f3023"), looks := true }, kinds := [], alts := [], laidByText := true, laidKinds := [.data, .data, .data, .pinned], laidTests := true, laidLooks := .later }
def CheckKindsUptoCardSaid : Prop := Claim7.holds Tryz.pinned (.plain (OpenSpec.upto checkKindsSpec)) checkKindsUptoCard

/-- THE SECOND FORM's CARD OF 'burgagelaw25.CheckFuel'. -/
def checkFuelUptoCard : Claim7 := { stood := { row := checkFuelUptoRow, standIns := [], harness := (true, "e369ff57780e172e0c81c9287b78a83a746f4eb65a0b1c843273bbbb0c0f3023"), looks := true }, kinds := [], alts := [], laidByText := true, laidKinds := [.data, .data, .data, .data, .data, .pinned], laidTests := true, laidLooks := .later }
def CheckFuelUptoCardSaid : Prop := Claim7.holds Tryz.pinned (.plain (OpenSpec.upto checkFuelSpec)) checkFuelUptoCard

/-- THE SECOND FORM's CARD OF 'burgagelaw25.CheckEnough'. -/
def checkEnoughUptoCard : Claim7 := { stood := { row := checkEnoughUptoRow, standIns := [], harness := (true, "e369ff57780e172e0c81c9287b78a83a746f4eb65a0b1c843273bbbb0c0f3023"), looks := true }, kinds := [], alts := [], laidByText := true, laidKinds := [.data, .data, .data, .pinned], laidTests := true, laidLooks := .later }
def CheckEnoughUptoCardSaid : Prop := Claim7.holds Tryz.pinned (.plain (OpenSpec.upto checkEnoughSpec)) checkEnoughUptoCard

/-- THE SECOND FORM's CARD OF 'burgagelaw25.CheckPlaces'. -/
def checkPlacesUptoCard : Claim7 := { stood := { row := checkPlacesUptoRow, standIns := [], harness := (true, "e369ff57780e172e0c81c9287b78a83a746f4eb65a0b1c843273bbbb0c0f3023"), looks := true }, kinds := [], alts := [], laidByText := true, laidKinds := [.data, .data, .data, .data, .data, .pinned], laidTests := true, laidLooks := .later }
def CheckPlacesUptoCardSaid : Prop := Claim7.holds Tryz.pinned (.plain (OpenSpec.upto checkPlacesSpec)) checkPlacesUptoCard

/-- THE SECOND FORM's CARD OF 'burgagetop.WholeNames'. -/
def wholeNamesUptoCard : Claim7 := { stood := { row := wholeNamesUptoRow, standIns := [], harness := (true, "e369ff57780e172e0c81c9287b78a83a746f4eb65a0b1c843273bbbb0c0f3023"), looks := true }, kinds := [], alts := [], laidByText := true, laidKinds := [.data, .data], laidTests := true, laidLooks := .later }
def WholeNamesUptoCardSaid : Prop := Claim7.holds Tryz.pinned (.plain (OpenSpec.upto wholeNamesSpec)) wholeNamesUptoCard

/-- THE SECOND FORM's CARD OF 'burgagetop.WholeEnough'. -/
def wholeEnoughUptoCard : Claim7 := { stood := { row := wholeEnoughUptoRow, standIns := [], harness := (true, "e369ff57780e172e0c81c9287b78a83a746f4eb65a0b1c843273bbbb0c0f3023"), looks := true }, kinds := [], alts := [], laidByText := true, laidKinds := [.data, .data, .data, .data, .data, .pinned], laidTests := true, laidLooks := .later }
def WholeEnoughUptoCardSaid : Prop := Claim7.holds Tryz.pinned (.plain (OpenSpec.upto wholeEnoughSpec)) wholeEnoughUptoCard
end Rows
end Go.Proofs.YtnhkjehfmbfmmaaGreatDoor
