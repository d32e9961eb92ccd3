/-
  DERIVED. GIVEN WITH THE SEED: THE CARDS: each row of YtadihdkpoeibhaaGreatDoorRows.lean that lists a variable, with what it lists TIED to the program's text (the seventh form; the later family's looks); each row that meets fmt, with fmt's text TOLD by the authors' own Lean function (tested against real Go, not proved from fmt's source: count such statements apart). THE CARD IS WHAT COUNTS. Prove the row's statement (the work); the ties are given (YtadihdkpoeibhaaGreatDoorTie.lean); close each card by the builder's one call (the guide's Derived/Test/ToyasCard.lean, 'card_holds'). Laid BY PROGRAM, IN A SANDBOX (cutbox-door.mjs). By AI agents, Wed Nov 11 2026. No macro, syntax, notation, axiom, sorry.
-/
import Derived.Test.YtadihdkpoeibhaaGreatDoorRows
import GoSem.ClaimSeven
namespace Go.Proofs.YtadihdkpoeibhaaGreatDoor
namespace Rows

/-- THE TIED CARD OF 'burgagelaw19.LatticeOf'. -/
def latticeOfCard : Claim7 := { stood := { row := latticeOfRow, standIns := [], harness := (true, "9f074c752756f16fd3197736b9fa5b3762df3c6ce7a3814a1a7fcb04c64ab584"), looks := true }, kinds := [], alts := [], laidByText := true, laidKinds := [.data, .data], laidTests := true, laidLooks := .later }
def LatticeOfCardSaid : Prop := Claim7.holds Tryz.pinned (.plain (OpenSpec.ofChange latticeOfSpec)) latticeOfCard

/-- THE TIED CARD OF 'burgagelaw20.CatalogueEntries'. -/
def catalogueEntriesCard : Claim7 := { stood := { row := catalogueEntriesRow, standIns := [], harness := (true, "9f074c752756f16fd3197736b9fa5b3762df3c6ce7a3814a1a7fcb04c64ab584"), looks := true }, kinds := [], alts := [], laidByText := true, laidKinds := [.data, .data], laidTests := true, laidLooks := .later }
def CatalogueEntriesCardSaid : Prop := Claim7.holds Tryz.pinned (.plain (OpenSpec.ofChange catalogueEntriesSpec)) catalogueEntriesCard

/-- THE TIED CARD OF 'burgagelaw21.RenameKeeps'. -/
def renameKeepsCard : Claim7 := { stood := { row := renameKeepsRow, standIns := [], harness := (true, "9f074c752756f16fd3197736b9fa5b3762df3c6ce7a3814a1a7fcb04c64ab584"), looks := true }, kinds := [], alts := [], laidByText := true, laidKinds := [.data, .data], laidTests := true, laidLooks := .later }
def RenameKeepsCardSaid : Prop := Claim7.holds Tryz.pinned (.plain (OpenSpec.ofChange renameKeepsSpec)) renameKeepsCard

/-- THE TIED CARD OF 'burgagelaw22.CanonKeeps'. -/
def canonKeepsCard : Claim7 := { stood := { row := canonKeepsRow, standIns := [], harness := (true, "9f074c752756f16fd3197736b9fa5b3762df3c6ce7a3814a1a7fcb04c64ab584"), looks := true }, kinds := [], alts := [], laidByText := true, laidKinds := [.data, .data], laidTests := true, laidLooks := .later }
def CanonKeepsCardSaid : Prop := Claim7.holds Tryz.pinned (.plain (OpenSpec.ofChange canonKeepsSpec)) canonKeepsCard

/-- THE TIED CARD OF 'burgagetop.WholeSerial'. -/
def wholeSerialCard : Claim7 := { stood := { row := wholeSerialRow, standIns := [], harness := (true, "9f074c752756f16fd3197736b9fa5b3762df3c6ce7a3814a1a7fcb04c64ab584"), looks := true }, kinds := [], alts := [], laidByText := true, laidKinds := [.data, .data], laidTests := true, laidLooks := .later }
def WholeSerialCardSaid : Prop := Claim7.holds Tryz.pinned (.plain (OpenSpec.ofChange wholeSerialSpec)) wholeSerialCard

/-- THE TIED CARD OF 'burgagetop.WholeCatalogue'. -/
def wholeCatalogueCard : Claim7 := { stood := { row := wholeCatalogueRow, standIns := [], harness := (true, "9f074c752756f16fd3197736b9fa5b3762df3c6ce7a3814a1a7fcb04c64ab584"), looks := true }, kinds := [], alts := [], laidByText := true, laidKinds := [.data, .data], laidTests := true, laidLooks := .later }
def WholeCatalogueCardSaid : Prop := Claim7.holds Tryz.pinned (.plain (OpenSpec.ofChange wholeCatalogueSpec)) wholeCatalogueCard

/-- THE TIED CARD OF 'burgagetop.WholeNames'. -/
def wholeNamesCard : Claim7 := { stood := { row := wholeNamesRow, standIns := [], harness := (true, "9f074c752756f16fd3197736b9fa5b3762df3c6ce7a3814a1a7fcb04c64ab584"), looks := true }, kinds := [], alts := [], laidByText := true, laidKinds := [.data, .data], laidTests := true, laidLooks := .later }
def WholeNamesCardSaid : Prop := Claim7.holds Tryz.pinned (.plain (OpenSpec.ofChange wholeNamesSpec)) wholeNamesCard

/-- THE TIED CARD OF 'burgagetop.WholeSessions'. -/
def wholeSessionsCard : Claim7 := { stood := { row := wholeSessionsRow, standIns := [], harness := (true, "9f074c752756f16fd3197736b9fa5b3762df3c6ce7a3814a1a7fcb04c64ab584"), looks := true }, kinds := [], alts := [], laidByText := true, laidKinds := [.data, .data], laidTests := true, laidLooks := .later }
def WholeSessionsCardSaid : Prop := Claim7.holds Tryz.pinned (.plain (OpenSpec.ofChange wholeSessionsSpec)) wholeSessionsCard

/-- THE SECOND FORM's CARD OF 'burgagelaw19.LatticeOf'. -/
def latticeOfUptoCard : Claim7 := { stood := { row := latticeOfUptoRow, standIns := [], harness := (true, "9f074c752756f16fd3197736b9fa5b3762df3c6ce7a3814a1a7fcb04c64ab584"), looks := true }, kinds := [], alts := [], laidByText := true, laidKinds := [.data, .data], laidTests := true, laidLooks := .later }
def LatticeOfUptoCardSaid : Prop := Claim7.holds Tryz.pinned (.plain (OpenSpec.upto latticeOfSpec)) latticeOfUptoCard

/-- THE SECOND FORM's CARD OF 'burgagelaw20.CatalogueEntries'. -/
def catalogueEntriesUptoCard : Claim7 := { stood := { row := catalogueEntriesUptoRow, standIns := [], harness := (true, "9f074c752756f16fd3197736b9fa5b3762df3c6ce7a3814a1a7fcb04c64ab584"), looks := true }, kinds := [], alts := [], laidByText := true, laidKinds := [.data, .data], laidTests := true, laidLooks := .later }
def CatalogueEntriesUptoCardSaid : Prop := Claim7.holds Tryz.pinned (.plain (OpenSpec.upto catalogueEntriesSpec)) catalogueEntriesUptoCard

/-- THE SECOND FORM's CARD OF 'burgagelaw21.RenameKeeps'. -/
def renameKeepsUptoCard : Claim7 := { stood := { row := renameKeepsUptoRow, standIns := [], harness := (true, "9f074c752756f16fd3197736b9fa5b3762df3c6ce7a3814a1a7fcb04c64ab584"), looks := true }, kinds := [], alts := [], laidByText := true, laidKinds := [.data, .data], laidTests := true, laidLooks := .later }
def RenameKeepsUptoCardSaid : Prop := Claim7.holds Tryz.pinned (.plain (OpenSpec.upto renameKeepsSpec)) renameKeepsUptoCard

/-- THE SECOND FORM's CARD OF 'burgagelaw22.CanonKeeps'. -/
def canonKeepsUptoCard : Claim7 := { stood := { row := canonKeepsUptoRow, standIns := [], harness := (true, "9f074c752756f16fd3197736b9fa5b3762df3c6ce7a3814a1a7fcb04c64ab584"), looks := true }, kinds := [], alts := [], laidByText := true, laidKinds := [.data, .data], laidTests := true, laidLooks := .later }
def CanonKeepsUptoCardSaid : Prop := Claim7.holds Tryz.pinned (.plain (OpenSpec.upto canonKeepsSpec)) canonKeepsUptoCard

/-- THE SECOND FORM's CARD OF 'burgagetop.WholeSerial'. -/
def wholeSerialUptoCard : Claim7 := { stood := { row := wholeSerialUptoRow, standIns := [], harness := (true, "9f074c752756f16fd3197736b9fa5b3762df3c6ce7a3814a1a7fcb04c64ab584"), looks := true }, kinds := [], alts := [], laidByText := true, laidKinds := [.data, .data], laidTests := true, laidLooks := .later }
def WholeSerialUptoCardSaid : Prop := Claim7.holds Tryz.pinned (.plain (OpenSpec.upto wholeSerialSpec)) wholeSerialUptoCard

/-- THE SECOND FORM's CARD OF 'burgagetop.WholeCatalogue'. -/
def wholeCatalogueUptoCard : Claim7 := { stood := { row := wholeCatalogueUptoRow, standIns := [], harness := (true, "9f074c752756f16fd3197736b9fa5b3762df3c6ce7a3814a1a7fcb04c64ab584"), looks := true }, kinds := [], alts := [], laidByText := true, laidKinds := [.data, .data], laidTests := true, laidLooks := .later }
def WholeCatalogueUptoCardSaid : Prop := Claim7.holds Tryz.pinned (.plain (OpenSpec.upto wholeCatalogueSpec)) wholeCatalogueUptoCard

/-- THE SECOND FORM's CARD OF 'burgagetop.WholeNames'. -/
def wholeNamesUptoCard : Claim7 := { stood := { row := wholeNamesUptoRow, standIns := [], harness := (true, "9f074c752756f16fd3197736b9fa5b3762df3c6ce7a3814a1a7fcb04c64ab584"), looks := true }, kinds := [], alts := [], laidByText := true, laidKinds := [.data, .data], laidTests := true, laidLooks := .later }
def WholeNamesUptoCardSaid : Prop := Claim7.holds Tryz.pinned (.plain (OpenSpec.upto wholeNamesSpec)) wholeNamesUptoCard

/-- THE SECOND FORM's CARD OF 'burgagetop.WholeSessions'. -/
def wholeSessionsUptoCard : Claim7 := { stood := { row := wholeSessionsUptoRow, standIns := [], harness := (true, "9f074c752756f16fd3197736b9fa5b3762df3c6ce7a3814a1a7fcb04c64ab584"), looks := true }, kinds := [], alts := [], laidByText := true, laidKinds := [.data, .data], laidTests := true, laidLooks := .later }
def WholeSessionsUptoCardSaid : Prop := Claim7.holds Tryz.pinned (.plain (OpenSpec.upto wholeSessionsSpec)) wholeSessionsUptoCard
end Rows
end Go.Proofs.YtadihdkpoeibhaaGreatDoor
