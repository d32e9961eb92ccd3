/-
  DERIVED. GIVEN WITH THE SEED: THE CARDS: each row of YtmcicfdnmfbimaaGreatDoorRows.lean that lists a variable, with what it lists TIED to the program's text (the seventh form; the later family's looks); each row that meets fmt, with fmt's text TOLD by the authors' own Lean function (tested against real Go, not proved from fmt's source: count such statements apart). THE CARD IS WHAT COUNTS. Prove the row's statement (the work); the ties are given (YtmcicfdnmfbimaaGreatDoorTie.lean); close each card by the builder's one call (the guide's Derived/Test/ToyasCard.lean, 'card_holds'). Laid BY PROGRAM, IN A SANDBOX (cutbox-door.mjs). By AI agents, Wed Nov 11 2026. No macro, syntax, notation, axiom, sorry.
-/
import Derived.Test.YtmcicfdnmfbimaaGreatDoorRows
import GoSem.ClaimSeven
namespace Go.Proofs.YtmcicfdnmfbimaaGreatDoor
namespace Rows

/-- THE TIED CARD OF 'burgagelaw17.SearchLong'. -/
def searchLongCard : Claim7 := { stood := { row := searchLongRow, standIns := [], harness := (true, "eb2dca74cf7fabd00b258d6154dcaa2b55d92912dcdef5b0cbc09af127a1c52a"), looks := false }, kinds := [], alts := [], laidByText := true, laidKinds := [.data, .data], laidTests := true, laidLooks := .later }
def SearchLongCardSaid : Prop := Claim7.holds Tryz.pinned (.plain (OpenSpec.ofChange searchLongSpec)) searchLongCard

/-- THE TIED CARD OF 'burgagelaw18.VectorAccepts'. -/
def vectorAcceptsCard : Claim7 := { stood := { row := vectorAcceptsRow, standIns := [], harness := (true, "eb2dca74cf7fabd00b258d6154dcaa2b55d92912dcdef5b0cbc09af127a1c52a"), looks := false }, kinds := [], alts := [], laidByText := true, laidKinds := [.data, .data], laidTests := true, laidLooks := .later }
def VectorAcceptsCardSaid : Prop := Claim7.holds Tryz.pinned (.plain (OpenSpec.ofChange vectorAcceptsSpec)) vectorAcceptsCard

/-- THE TIED CARD OF 'burgagelaw18.VectorFuel'. -/
def vectorFuelCard : Claim7 := { stood := { row := vectorFuelRow, standIns := [], harness := (true, "eb2dca74cf7fabd00b258d6154dcaa2b55d92912dcdef5b0cbc09af127a1c52a"), looks := false }, kinds := [], alts := [], laidByText := true, laidKinds := [.data, .data], laidTests := true, laidLooks := .later }
def VectorFuelCardSaid : Prop := Claim7.holds Tryz.pinned (.plain (OpenSpec.ofChange vectorFuelSpec)) vectorFuelCard

/-- THE TIED CARD OF 'burgagelaw18.VectorRight'. -/
def vectorRightCard : Claim7 := { stood := { row := vectorRightRow, standIns := [], harness := (true, "eb2dca74cf7fabd00b258d6154dcaa2b55d92912dcdef5b0cbc09af127a1c52a"), looks := false }, kinds := [], alts := [], laidByText := true, laidKinds := [.data, .data], laidTests := true, laidLooks := .later }
def VectorRightCardSaid : Prop := Claim7.holds Tryz.pinned (.plain (OpenSpec.ofChange vectorRightSpec)) vectorRightCard

/-- THE TIED CARD OF 'burgagelaw19.LatticeOf'. -/
def latticeOfCard : Claim7 := { stood := { row := latticeOfRow, standIns := [], harness := (true, "eb2dca74cf7fabd00b258d6154dcaa2b55d92912dcdef5b0cbc09af127a1c52a"), looks := false }, kinds := [], alts := [], laidByText := true, laidKinds := [.data, .data], laidTests := true, laidLooks := .later }
def LatticeOfCardSaid : Prop := Claim7.holds Tryz.pinned (.plain (OpenSpec.ofChange latticeOfSpec)) latticeOfCard

/-- THE TIED CARD OF 'burgagelaw20.CatalogueEntries'. -/
def catalogueEntriesCard : Claim7 := { stood := { row := catalogueEntriesRow, standIns := [], harness := (true, "eb2dca74cf7fabd00b258d6154dcaa2b55d92912dcdef5b0cbc09af127a1c52a"), looks := false }, kinds := [], alts := [], laidByText := true, laidKinds := [.data, .data], laidTests := true, laidLooks := .later }
def CatalogueEntriesCardSaid : Prop := Claim7.holds Tryz.pinned (.plain (OpenSpec.ofChange catalogueEntriesSpec)) catalogueEntriesCard

/-- THE TIED CARD OF 'burgagetop.WholeVerdicts'. -/
def wholeVerdictsCard : Claim7 := { stood := { row := wholeVerdictsRow, standIns := [], harness := (true, "eb2dca74cf7fabd00b258d6154dcaa2b55d92912dcdef5b0cbc09af127a1c52a"), looks := false }, kinds := [], alts := [], laidByText := true, laidKinds := [.data, .data], laidTests := true, laidLooks := .later }
def WholeVerdictsCardSaid : Prop := Claim7.holds Tryz.pinned (.plain (OpenSpec.ofChange wholeVerdictsSpec)) wholeVerdictsCard

/-- THE TIED CARD OF 'burgagetop.WholeSerial'. -/
def wholeSerialCard : Claim7 := { stood := { row := wholeSerialRow, standIns := [], harness := (true, "eb2dca74cf7fabd00b258d6154dcaa2b55d92912dcdef5b0cbc09af127a1c52a"), looks := false }, kinds := [], alts := [], laidByText := true, laidKinds := [.data, .data], laidTests := true, laidLooks := .later }
def WholeSerialCardSaid : Prop := Claim7.holds Tryz.pinned (.plain (OpenSpec.ofChange wholeSerialSpec)) wholeSerialCard

/-- THE TIED CARD OF 'burgagetop.WholeCatalogue'. -/
def wholeCatalogueCard : Claim7 := { stood := { row := wholeCatalogueRow, standIns := [], harness := (true, "eb2dca74cf7fabd00b258d6154dcaa2b55d92912dcdef5b0cbc09af127a1c52a"), looks := false }, kinds := [], alts := [], laidByText := true, laidKinds := [.data, .data], laidTests := true, laidLooks := .later }
def WholeCatalogueCardSaid : Prop := Claim7.holds Tryz.pinned (.plain (OpenSpec.ofChange wholeCatalogueSpec)) wholeCatalogueCard

/-- THE TIED CARD OF 'burgagetop.WholeParts'. -/
def wholePartsCard : Claim7 := { stood := { row := wholePartsRow, standIns := [], harness := (true, "eb2dca74cf7fabd00b258d6154dcaa2b55d92912dcdef5b0cbc09af127a1c52a"), looks := false }, kinds := [], alts := [], laidByText := true, laidKinds := [.data, .data], laidTests := true, laidLooks := .later }
def WholePartsCardSaid : Prop := Claim7.holds Tryz.pinned (.plain (OpenSpec.ofChange wholePartsSpec)) wholePartsCard

/-- THE SECOND FORM's CARD OF 'burgagelaw17.SearchLong'. -/
def searchLongUptoCard : Claim7 := { stood := { row := searchLongUptoRow, standIns := [], harness := (true, "eb2dca74cf7fabd00b258d6154dcaa2b55d92912dcdef5b0cbc09af127a1c52a"), looks := false }, kinds := [], alts := [], laidByText := true, laidKinds := [.data, .data], laidTests := true, laidLooks := .later }
def SearchLongUptoCardSaid : Prop := Claim7.holds Tryz.pinned (.plain (OpenSpec.upto searchLongSpec)) searchLongUptoCard

/-- THE SECOND FORM's CARD OF 'burgagelaw18.VectorAccepts'. -/
def vectorAcceptsUptoCard : Claim7 := { stood := { row := vectorAcceptsUptoRow, standIns := [], harness := (true, "eb2dca74cf7fabd00b258d6154dcaa2b55d92912dcdef5b0cbc09af127a1c52a"), looks := false }, kinds := [], alts := [], laidByText := true, laidKinds := [.data, .data], laidTests := true, laidLooks := .later }
def VectorAcceptsUptoCardSaid : Prop := Claim7.holds Tryz.pinned (.plain (OpenSpec.upto vectorAcceptsSpec)) vectorAcceptsUptoCard

/-- THE SECOND FORM's CARD OF 'burgagelaw18.VectorFuel'. -/
def vectorFuelUptoCard : Claim7 := { stood := { row := vectorFuelUptoRow, standIns := [], harness := (true, "eb2dca74cf7fabd00b258d6154dcaa2b55d92912dcdef5b0cbc09af127a1c52a"), looks := false }, kinds := [], alts := [], laidByText := true, laidKinds := [.data, .data], laidTests := true, laidLooks := .later }
def VectorFuelUptoCardSaid : Prop := Claim7.holds Tryz.pinned (.plain (OpenSpec.upto vectorFuelSpec)) vectorFuelUptoCard

/-- THE SECOND FORM's CARD OF 'burgagelaw18.VectorRight'. -/
def vectorRightUptoCard : Claim7 := { stood := { row := vectorRightUptoRow, standIns := [], harness := (true, "eb2dca74cf7fabd00b258d6154dcaa2b55d92912dcdef5b0cbc09af127a1c52a"), looks := false }, kinds := [], alts := [], laidByText := true, laidKinds := [.data, .data], laidTests := true, laidLooks := .later }
def VectorRightUptoCardSaid : Prop := Claim7.holds Tryz.pinned (.plain (OpenSpec.upto vectorRightSpec)) vectorRightUptoCard

/-- THE SECOND FORM's CARD OF 'burgagelaw19.LatticeOf'. -/
def latticeOfUptoCard : Claim7 := { stood := { row := latticeOfUptoRow, standIns := [], harness := (true, "eb2dca74cf7fabd00b258d6154dcaa2b55d92912dcdef5b0cbc09af127a1c52a"), looks := false }, kinds := [], alts := [], laidByText := true, laidKinds := [.data, .data], laidTests := true, laidLooks := .later }
def LatticeOfUptoCardSaid : Prop := Claim7.holds Tryz.pinned (.plain (OpenSpec.upto latticeOfSpec)) latticeOfUptoCard

/-- THE SECOND FORM's CARD OF 'burgagelaw20.CatalogueEntries'. -/
def catalogueEntriesUptoCard : Claim7 := { stood := { row := catalogueEntriesUptoRow, standIns := [], harness := (true, "eb2dca74cf7fabd00b258d6154dcaa2b55d92912dcdef5b0cbc09af127a1c52a"), looks := false }, kinds := [], alts := [], laidByText := true, laidKinds := [.data, .data], laidTests := true, laidLooks := .later }
def CatalogueEntriesUptoCardSaid : Prop := Claim7.holds Tryz.pinned (.plain (OpenSpec.upto catalogueEntriesSpec)) catalogueEntriesUptoCard

/-- THE SECOND FORM's CARD OF 'burgagetop.WholeVerdicts'. -/
def wholeVerdictsUptoCard : Claim7 := { stood := { row := wholeVerdictsUptoRow, standIns := [], harness := (true, "eb2dca74cf7fabd00b258d6154dcaa2b55d92912dcdef5b0cbc09af127a1c52a"), looks := false }, kinds := [], alts := [], laidByText := true, laidKinds := [.data, .data], laidTests := true, laidLooks := .later }
def WholeVerdictsUptoCardSaid : Prop := Claim7.holds Tryz.pinned (.plain (OpenSpec.upto wholeVerdictsSpec)) wholeVerdictsUptoCard

/-- THE SECOND FORM's CARD OF 'burgagetop.WholeSerial'. -/
def wholeSerialUptoCard : Claim7 := { stood := { row := wholeSerialUptoRow, standIns := [], harness := (true, "eb2dca74cf7fabd00b258d6154dcaa2b55d92912dcdef5b0cbc09af127a1c52a"), looks := false }, kinds := [], alts := [], laidByText := true, laidKinds := [.data, .data], laidTests := true, laidLooks := .later }
def WholeSerialUptoCardSaid : Prop := Claim7.holds Tryz.pinned (.plain (OpenSpec.upto wholeSerialSpec)) wholeSerialUptoCard

/-- THE SECOND FORM's CARD OF 'burgagetop.WholeCatalogue'. -/
def wholeCatalogueUptoCard : Claim7 := { stood := { row := wholeCatalogueUptoRow, standIns := [], harness := (true, "eb2dca74cf7fabd00b258d6154dcaa2b55d92912dcdef5b0cbc09af127a1c52a"), looks := false }, kinds := [], alts := [], laidByText := true, laidKinds := [.data, .data], laidTests := true, laidLooks := .later }
def WholeCatalogueUptoCardSaid : Prop := Claim7.holds Tryz.pinned (.plain (OpenSpec.upto wholeCatalogueSpec)) wholeCatalogueUptoCard

/-- THE SECOND FORM's CARD OF 'burgagetop.WholeParts'. -/
def wholePartsUptoCard : Claim7 := { stood := { row := wholePartsUptoRow, standIns := [], harness := (true, "eb2dca74cf7fabd00b258d6154dcaa2b55d92912dcdef5b0cbc09af127a1c52a"), looks := false }, kinds := [], alts := [], laidByText := true, laidKinds := [.data, .data], laidTests := true, laidLooks := .later }
def WholePartsUptoCardSaid : Prop := Claim7.holds Tryz.pinned (.plain (OpenSpec.upto wholePartsSpec)) wholePartsUptoCard
end Rows
end Go.Proofs.YtmcicfdnmfbimaaGreatDoor
