/-
  DERIVED. GIVEN WITH THE SEED: THE CARDS: each row of YtecpeegbfeijaaaGreatDoorRows.lean that lists a variable, with what it lists TIED to the program's text (the seventh form; the later family's looks); each row that meets fmt, with fmt's text TOLD by the authors' own Lean function (tested against real Go, not proved from fmt's source: count such statements apart). THE CARD IS WHAT COUNTS. Prove the row's statement (the work); the ties are given (YtecpeegbfeijaaaGreatDoorTie.lean); close each card by the builder's one call (the guide's Derived/Test/ToyasCard.lean, 'card_holds'). Laid BY PROGRAM, IN A SANDBOX (cutbox-door.mjs). By AI agents, Wed Nov 11 2026. No macro, syntax, notation, axiom, sorry.
-/
import Derived.Test.YtecpeegbfeijaaaGreatDoorRows
import GoSem.ClaimSeven
namespace Go.Proofs.YtecpeegbfeijaaaGreatDoor
namespace Rows

/-- THE TIED CARD OF 'burgagelaw13.BruteDecides'. -/
def bruteDecidesCard : Claim7 := { stood := { row := bruteDecidesRow, standIns := [], harness := (true, "dff560f1cd4f5a0e275ed9f9633b57859abc4511619c0b309eef4c6eb0764d93"), looks := false }, kinds := [], alts := [], laidByText := true, laidKinds := [.data, .data], laidTests := true, laidLooks := .later }
def BruteDecidesCardSaid : Prop := Claim7.holds Tryz.pinned (.plain (OpenSpec.ofChange bruteDecidesSpec)) bruteDecidesCard

/-- THE TIED CARD OF 'burgagelaw17.SearchDecides'. -/
def searchDecidesCard : Claim7 := { stood := { row := searchDecidesRow, standIns := [], harness := (true, "dff560f1cd4f5a0e275ed9f9633b57859abc4511619c0b309eef4c6eb0764d93"), looks := false }, kinds := [], alts := [], laidByText := true, laidKinds := [.data, .data], laidTests := true, laidLooks := .later }
def SearchDecidesCardSaid : Prop := Claim7.holds Tryz.pinned (.plain (OpenSpec.ofChange searchDecidesSpec)) searchDecidesCard

/-- THE TIED CARD OF 'burgagelaw17.SearchFuel'. -/
def searchFuelCard : Claim7 := { stood := { row := searchFuelRow, standIns := [], harness := (true, "dff560f1cd4f5a0e275ed9f9633b57859abc4511619c0b309eef4c6eb0764d93"), looks := false }, kinds := [], alts := [], laidByText := true, laidKinds := [.data, .data], laidTests := true, laidLooks := .later }
def SearchFuelCardSaid : Prop := Claim7.holds Tryz.pinned (.plain (OpenSpec.ofChange searchFuelSpec)) searchFuelCard

/-- THE TIED CARD OF 'burgagelaw17.SearchBound'. -/
def searchBoundCard : Claim7 := { stood := { row := searchBoundRow, standIns := [], harness := (true, "dff560f1cd4f5a0e275ed9f9633b57859abc4511619c0b309eef4c6eb0764d93"), looks := false }, kinds := [], alts := [], laidByText := true, laidKinds := [.data, .data], laidTests := true, laidLooks := .later }
def SearchBoundCardSaid : Prop := Claim7.holds Tryz.pinned (.plain (OpenSpec.ofChange searchBoundSpec)) searchBoundCard

/-- THE TIED CARD OF 'burgagelaw17.SearchLong'. -/
def searchLongCard : Claim7 := { stood := { row := searchLongRow, standIns := [], harness := (true, "dff560f1cd4f5a0e275ed9f9633b57859abc4511619c0b309eef4c6eb0764d93"), looks := false }, kinds := [], alts := [], laidByText := true, laidKinds := [.data, .data], laidTests := true, laidLooks := .later }
def SearchLongCardSaid : Prop := Claim7.holds Tryz.pinned (.plain (OpenSpec.ofChange searchLongSpec)) searchLongCard

/-- THE TIED CARD OF 'burgagelaw18.VectorAccepts'. -/
def vectorAcceptsCard : Claim7 := { stood := { row := vectorAcceptsRow, standIns := [], harness := (true, "dff560f1cd4f5a0e275ed9f9633b57859abc4511619c0b309eef4c6eb0764d93"), looks := false }, kinds := [], alts := [], laidByText := true, laidKinds := [.data, .data], laidTests := true, laidLooks := .later }
def VectorAcceptsCardSaid : Prop := Claim7.holds Tryz.pinned (.plain (OpenSpec.ofChange vectorAcceptsSpec)) vectorAcceptsCard

/-- THE TIED CARD OF 'burgagelaw18.VectorFuel'. -/
def vectorFuelCard : Claim7 := { stood := { row := vectorFuelRow, standIns := [], harness := (true, "dff560f1cd4f5a0e275ed9f9633b57859abc4511619c0b309eef4c6eb0764d93"), looks := false }, kinds := [], alts := [], laidByText := true, laidKinds := [.data, .data], laidTests := true, laidLooks := .later }
def VectorFuelCardSaid : Prop := Claim7.holds Tryz.pinned (.plain (OpenSpec.ofChange vectorFuelSpec)) vectorFuelCard

/-- THE TIED CARD OF 'burgagelaw18.VectorRight'. -/
def vectorRightCard : Claim7 := { stood := { row := vectorRightRow, standIns := [], harness := (true, "dff560f1cd4f5a0e275ed9f9633b57859abc4511619c0b309eef4c6eb0764d93"), looks := false }, kinds := [], alts := [], laidByText := true, laidKinds := [.data, .data], laidTests := true, laidLooks := .later }
def VectorRightCardSaid : Prop := Claim7.holds Tryz.pinned (.plain (OpenSpec.ofChange vectorRightSpec)) vectorRightCard

/-- THE TIED CARD OF 'burgagetop.WholeMemo'. -/
def wholeMemoCard : Claim7 := { stood := { row := wholeMemoRow, standIns := [], harness := (true, "dff560f1cd4f5a0e275ed9f9633b57859abc4511619c0b309eef4c6eb0764d93"), looks := false }, kinds := [], alts := [], laidByText := true, laidKinds := [.data, .data], laidTests := true, laidLooks := .later }
def WholeMemoCardSaid : Prop := Claim7.holds Tryz.pinned (.plain (OpenSpec.ofChange wholeMemoSpec)) wholeMemoCard

/-- THE TIED CARD OF 'burgagetop.WholeVerdicts'. -/
def wholeVerdictsCard : Claim7 := { stood := { row := wholeVerdictsRow, standIns := [], harness := (true, "dff560f1cd4f5a0e275ed9f9633b57859abc4511619c0b309eef4c6eb0764d93"), looks := false }, kinds := [], alts := [], laidByText := true, laidKinds := [.data, .data], laidTests := true, laidLooks := .later }
def WholeVerdictsCardSaid : Prop := Claim7.holds Tryz.pinned (.plain (OpenSpec.ofChange wholeVerdictsSpec)) wholeVerdictsCard

/-- THE TIED CARD OF 'burgagetop.WholeSerial'. -/
def wholeSerialCard : Claim7 := { stood := { row := wholeSerialRow, standIns := [], harness := (true, "dff560f1cd4f5a0e275ed9f9633b57859abc4511619c0b309eef4c6eb0764d93"), looks := false }, kinds := [], alts := [], laidByText := true, laidKinds := [.data, .data], laidTests := true, laidLooks := .later }
def WholeSerialCardSaid : Prop := Claim7.holds Tryz.pinned (.plain (OpenSpec.ofChange wholeSerialSpec)) wholeSerialCard

/-- THE SECOND FORM's CARD OF 'burgagelaw13.BruteDecides'. -/
def bruteDecidesUptoCard : Claim7 := { stood := { row := bruteDecidesUptoRow, standIns := [], harness := (true, "dff560f1cd4f5a0e275ed9f9633b57859abc4511619c0b309eef4c6eb0764d93"), looks := false }, kinds := [], alts := [], laidByText := true, laidKinds := [.data, .data], laidTests := true, laidLooks := .later }
def BruteDecidesUptoCardSaid : Prop := Claim7.holds Tryz.pinned (.plain (OpenSpec.upto bruteDecidesSpec)) bruteDecidesUptoCard

/-- THE SECOND FORM's CARD OF 'burgagelaw17.SearchDecides'. -/
def searchDecidesUptoCard : Claim7 := { stood := { row := searchDecidesUptoRow, standIns := [], harness := (true, "dff560f1cd4f5a0e275ed9f9633b57859abc4511619c0b309eef4c6eb0764d93"), looks := false }, kinds := [], alts := [], laidByText := true, laidKinds := [.data, .data], laidTests := true, laidLooks := .later }
def SearchDecidesUptoCardSaid : Prop := Claim7.holds Tryz.pinned (.plain (OpenSpec.upto searchDecidesSpec)) searchDecidesUptoCard

/-- THE SECOND FORM's CARD OF 'burgagelaw17.SearchFuel'. -/
def searchFuelUptoCard : Claim7 := { stood := { row := searchFuelUptoRow, standIns := [], harness := (true, "dff560f1cd4f5a0e275ed9f9633b57859abc4511619c0b309eef4c6eb0764d93"), looks := false }, kinds := [], alts := [], laidByText := true, laidKinds := [.data, .data], laidTests := true, laidLooks := .later }
def SearchFuelUptoCardSaid : Prop := Claim7.holds Tryz.pinned (.plain (OpenSpec.upto searchFuelSpec)) searchFuelUptoCard

/-- THE SECOND FORM's CARD OF 'burgagelaw17.SearchBound'. -/
def searchBoundUptoCard : Claim7 := { stood := { row := searchBoundUptoRow, standIns := [], harness := (true, "dff560f1cd4f5a0e275ed9f9633b57859abc4511619c0b309eef4c6eb0764d93"), looks := false }, kinds := [], alts := [], laidByText := true, laidKinds := [.data, .data], laidTests := true, laidLooks := .later }
def SearchBoundUptoCardSaid : Prop := Claim7.holds Tryz.pinned (.plain (OpenSpec.upto searchBoundSpec)) searchBoundUptoCard

/-- THE SECOND FORM's CARD OF 'burgagelaw17.SearchLong'. -/
def searchLongUptoCard : Claim7 := { stood := { row := searchLongUptoRow, standIns := [], harness := (true, "dff560f1cd4f5a0e275ed9f9633b57859abc4511619c0b309eef4c6eb0764d93"), looks := false }, kinds := [], alts := [], laidByText := true, laidKinds := [.data, .data], laidTests := true, laidLooks := .later }
def SearchLongUptoCardSaid : Prop := Claim7.holds Tryz.pinned (.plain (OpenSpec.upto searchLongSpec)) searchLongUptoCard

/-- THE SECOND FORM's CARD OF 'burgagelaw18.VectorAccepts'. -/
def vectorAcceptsUptoCard : Claim7 := { stood := { row := vectorAcceptsUptoRow, standIns := [], harness := (true, "dff560f1cd4f5a0e275ed9f9633b57859abc4511619c0b309eef4c6eb0764d93"), looks := false }, kinds := [], alts := [], laidByText := true, laidKinds := [.data, .data], laidTests := true, laidLooks := .later }
def VectorAcceptsUptoCardSaid : Prop := Claim7.holds Tryz.pinned (.plain (OpenSpec.upto vectorAcceptsSpec)) vectorAcceptsUptoCard

/-- THE SECOND FORM's CARD OF 'burgagelaw18.VectorFuel'. -/
def vectorFuelUptoCard : Claim7 := { stood := { row := vectorFuelUptoRow, standIns := [], harness := (true, "dff560f1cd4f5a0e275ed9f9633b57859abc4511619c0b309eef4c6eb0764d93"), looks := false }, kinds := [], alts := [], laidByText := true, laidKinds := [.data, .data], laidTests := true, laidLooks := .later }
def VectorFuelUptoCardSaid : Prop := Claim7.holds Tryz.pinned (.plain (OpenSpec.upto vectorFuelSpec)) vectorFuelUptoCard

/-- THE SECOND FORM's CARD OF 'burgagelaw18.VectorRight'. -/
def vectorRightUptoCard : Claim7 := { stood := { row := vectorRightUptoRow, standIns := [], harness := (true, "dff560f1cd4f5a0e275ed9f9633b57859abc4511619c0b309eef4c6eb0764d93"), looks := false }, kinds := [], alts := [], laidByText := true, laidKinds := [.data, .data], laidTests := true, laidLooks := .later }
def VectorRightUptoCardSaid : Prop := Claim7.holds Tryz.pinned (.plain (OpenSpec.upto vectorRightSpec)) vectorRightUptoCard

/-- THE SECOND FORM's CARD OF 'burgagetop.WholeMemo'. -/
def wholeMemoUptoCard : Claim7 := { stood := { row := wholeMemoUptoRow, standIns := [], harness := (true, "dff560f1cd4f5a0e275ed9f9633b57859abc4511619c0b309eef4c6eb0764d93"), looks := false }, kinds := [], alts := [], laidByText := true, laidKinds := [.data, .data], laidTests := true, laidLooks := .later }
def WholeMemoUptoCardSaid : Prop := Claim7.holds Tryz.pinned (.plain (OpenSpec.upto wholeMemoSpec)) wholeMemoUptoCard

/-- THE SECOND FORM's CARD OF 'burgagetop.WholeVerdicts'. -/
def wholeVerdictsUptoCard : Claim7 := { stood := { row := wholeVerdictsUptoRow, standIns := [], harness := (true, "dff560f1cd4f5a0e275ed9f9633b57859abc4511619c0b309eef4c6eb0764d93"), looks := false }, kinds := [], alts := [], laidByText := true, laidKinds := [.data, .data], laidTests := true, laidLooks := .later }
def WholeVerdictsUptoCardSaid : Prop := Claim7.holds Tryz.pinned (.plain (OpenSpec.upto wholeVerdictsSpec)) wholeVerdictsUptoCard

/-- THE SECOND FORM's CARD OF 'burgagetop.WholeSerial'. -/
def wholeSerialUptoCard : Claim7 := { stood := { row := wholeSerialUptoRow, standIns := [], harness := (true, "dff560f1cd4f5a0e275ed9f9633b57859abc4511619c0b309eef4c6eb0764d93"), looks := false }, kinds := [], alts := [], laidByText := true, laidKinds := [.data, .data], laidTests := true, laidLooks := .later }
def WholeSerialUptoCardSaid : Prop := Claim7.holds Tryz.pinned (.plain (OpenSpec.upto wholeSerialSpec)) wholeSerialUptoCard
end Rows
end Go.Proofs.YtecpeegbfeijaaaGreatDoor
