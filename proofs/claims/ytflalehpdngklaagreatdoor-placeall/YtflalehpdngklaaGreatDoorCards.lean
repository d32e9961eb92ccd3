/-
  DERIVED. GIVEN WITH THE SEED: THE CARDS: each row of YtflalehpdngklaaGreatDoorRows.lean that lists a variable, with what it lists TIED to the program's text (the seventh form; the later family's looks); each row that meets fmt, with fmt's text TOLD by the authors' own Lean function (tested against real Go, not proved from fmt's source: count such statements apart). THE CARD IS WHAT COUNTS. Prove the row's statement (the work); the ties are given (YtflalehpdngklaaGreatDoorTie.lean); close each card by the builder's one call (the guide's Derived/Test/ToyasCard.lean, 'card_holds'). Laid BY PROGRAM, IN A SANDBOX (cutbox-door.mjs). By AI agents, Wed Nov 11 2026. No macro, syntax, notation, axiom, sorry.
-/
import Derived.Test.YtflalehpdngklaaGreatDoorRows
import GoSem.ClaimSeven
namespace Go.Proofs.YtflalehpdngklaaGreatDoor
namespace Rows

/-- THE TIED CARD OF 'burgagelaw12.AxiomTells'. -/
def axiomTellsCard : Claim7 := { stood := { row := axiomTellsRow, standIns := [], harness := (true, "70de68f9788c057532edcd85aaa2d6212190bbeca582e98aecb9e90b5ba2387d"), looks := false }, kinds := [], alts := [], laidByText := true, laidKinds := [.data, .data], laidTests := true, laidLooks := .later }
def AxiomTellsCardSaid : Prop := Claim7.holds Tryz.pinned (.plain (OpenSpec.ofChange axiomTellsSpec)) axiomTellsCard

/-- THE TIED CARD OF 'burgagelaw13.BruteIn'. -/
def bruteInCard : Claim7 := { stood := { row := bruteInRow, standIns := [], harness := (true, "70de68f9788c057532edcd85aaa2d6212190bbeca582e98aecb9e90b5ba2387d"), looks := false }, kinds := [], alts := [], laidByText := true, laidKinds := [.data, .data], laidTests := true, laidLooks := .later }
def BruteInCardSaid : Prop := Claim7.holds Tryz.pinned (.plain (OpenSpec.ofChange bruteInSpec)) bruteInCard

/-- THE TIED CARD OF 'burgagelaw13.BruteLeast'. -/
def bruteLeastCard : Claim7 := { stood := { row := bruteLeastRow, standIns := [], harness := (true, "70de68f9788c057532edcd85aaa2d6212190bbeca582e98aecb9e90b5ba2387d"), looks := false }, kinds := [], alts := [], laidByText := true, laidKinds := [.data, .data], laidTests := true, laidLooks := .later }
def BruteLeastCardSaid : Prop := Claim7.holds Tryz.pinned (.plain (OpenSpec.ofChange bruteLeastSpec)) bruteLeastCard

/-- THE TIED CARD OF 'burgagelaw13.BruteDecides'. -/
def bruteDecidesCard : Claim7 := { stood := { row := bruteDecidesRow, standIns := [], harness := (true, "70de68f9788c057532edcd85aaa2d6212190bbeca582e98aecb9e90b5ba2387d"), looks := false }, kinds := [], alts := [], laidByText := true, laidKinds := [.data, .data], laidTests := true, laidLooks := .later }
def BruteDecidesCardSaid : Prop := Claim7.holds Tryz.pinned (.plain (OpenSpec.ofChange bruteDecidesSpec)) bruteDecidesCard

/-- THE TIED CARD OF 'burgagelaw14.PlaceTries'. -/
def placeTriesCard : Claim7 := { stood := { row := placeTriesRow, standIns := [], harness := (true, "70de68f9788c057532edcd85aaa2d6212190bbeca582e98aecb9e90b5ba2387d"), looks := false }, kinds := [], alts := [], laidByText := true, laidKinds := [.data], laidTests := true, laidLooks := .later }
def PlaceTriesCardSaid : Prop := Claim7.holds Tryz.pinned (.plain (OpenSpec.ofChange placeTriesSpec)) placeTriesCard

/-- THE TIED CARD OF 'burgagelaw14.PlaceAll'. -/
def placeAllCard : Claim7 := { stood := { row := placeAllRow, standIns := [], harness := (true, "70de68f9788c057532edcd85aaa2d6212190bbeca582e98aecb9e90b5ba2387d"), looks := false }, kinds := [], alts := [], laidByText := true, laidKinds := [.data, .data], laidTests := true, laidLooks := .later }
def PlaceAllCardSaid : Prop := Claim7.holds Tryz.pinned (.plain (OpenSpec.ofChange placeAllSpec)) placeAllCard

/-- THE TIED CARD OF 'burgagetop.WholeTexts'. -/
def wholeTextsCard : Claim7 := { stood := { row := wholeTextsRow, standIns := [], harness := (true, "70de68f9788c057532edcd85aaa2d6212190bbeca582e98aecb9e90b5ba2387d"), looks := false }, kinds := [], alts := [], laidByText := true, laidKinds := [.data, .data, .data, .data, .pinned], laidTests := true, laidLooks := .later }
def WholeTextsCardSaid : Prop := Claim7.holds Tryz.pinned (.plain (OpenSpec.ofChange wholeTextsSpec)) wholeTextsCard

/-- THE TIED CARD OF 'burgagetop.WholeWays'. -/
def wholeWaysCard : Claim7 := { stood := { row := wholeWaysRow, standIns := [], harness := (true, "70de68f9788c057532edcd85aaa2d6212190bbeca582e98aecb9e90b5ba2387d"), looks := false }, kinds := [], alts := [], laidByText := true, laidKinds := [.data, .data], laidTests := true, laidLooks := .later }
def WholeWaysCardSaid : Prop := Claim7.holds Tryz.pinned (.plain (OpenSpec.ofChange wholeWaysSpec)) wholeWaysCard

/-- THE SECOND FORM's CARD OF 'burgagelaw12.AxiomTells'. -/
def axiomTellsUptoCard : Claim7 := { stood := { row := axiomTellsUptoRow, standIns := [], harness := (true, "70de68f9788c057532edcd85aaa2d6212190bbeca582e98aecb9e90b5ba2387d"), looks := false }, kinds := [], alts := [], laidByText := true, laidKinds := [.data, .data], laidTests := true, laidLooks := .later }
def AxiomTellsUptoCardSaid : Prop := Claim7.holds Tryz.pinned (.plain (OpenSpec.upto axiomTellsSpec)) axiomTellsUptoCard

/-- THE SECOND FORM's CARD OF 'burgagelaw13.BruteIn'. -/
def bruteInUptoCard : Claim7 := { stood := { row := bruteInUptoRow, standIns := [], harness := (true, "70de68f9788c057532edcd85aaa2d6212190bbeca582e98aecb9e90b5ba2387d"), looks := false }, kinds := [], alts := [], laidByText := true, laidKinds := [.data, .data], laidTests := true, laidLooks := .later }
def BruteInUptoCardSaid : Prop := Claim7.holds Tryz.pinned (.plain (OpenSpec.upto bruteInSpec)) bruteInUptoCard

/-- THE SECOND FORM's CARD OF 'burgagelaw13.BruteLeast'. -/
def bruteLeastUptoCard : Claim7 := { stood := { row := bruteLeastUptoRow, standIns := [], harness := (true, "70de68f9788c057532edcd85aaa2d6212190bbeca582e98aecb9e90b5ba2387d"), looks := false }, kinds := [], alts := [], laidByText := true, laidKinds := [.data, .data], laidTests := true, laidLooks := .later }
def BruteLeastUptoCardSaid : Prop := Claim7.holds Tryz.pinned (.plain (OpenSpec.upto bruteLeastSpec)) bruteLeastUptoCard

/-- THE SECOND FORM's CARD OF 'burgagelaw13.BruteDecides'. -/
def bruteDecidesUptoCard : Claim7 := { stood := { row := bruteDecidesUptoRow, standIns := [], harness := (true, "70de68f9788c057532edcd85aaa2d6212190bbeca582e98aecb9e90b5ba2387d"), looks := false }, kinds := [], alts := [], laidByText := true, laidKinds := [.data, .data], laidTests := true, laidLooks := .later }
def BruteDecidesUptoCardSaid : Prop := Claim7.holds Tryz.pinned (.plain (OpenSpec.upto bruteDecidesSpec)) bruteDecidesUptoCard

/-- THE SECOND FORM's CARD OF 'burgagelaw14.PlaceTries'. -/
def placeTriesUptoCard : Claim7 := { stood := { row := placeTriesUptoRow, standIns := [], harness := (true, "70de68f9788c057532edcd85aaa2d6212190bbeca582e98aecb9e90b5ba2387d"), looks := false }, kinds := [], alts := [], laidByText := true, laidKinds := [.data], laidTests := true, laidLooks := .later }
def PlaceTriesUptoCardSaid : Prop := Claim7.holds Tryz.pinned (.plain (OpenSpec.upto placeTriesSpec)) placeTriesUptoCard

/-- THE SECOND FORM's CARD OF 'burgagelaw14.PlaceAll'. -/
def placeAllUptoCard : Claim7 := { stood := { row := placeAllUptoRow, standIns := [], harness := (true, "70de68f9788c057532edcd85aaa2d6212190bbeca582e98aecb9e90b5ba2387d"), looks := false }, kinds := [], alts := [], laidByText := true, laidKinds := [.data, .data], laidTests := true, laidLooks := .later }
def PlaceAllUptoCardSaid : Prop := Claim7.holds Tryz.pinned (.plain (OpenSpec.upto placeAllSpec)) placeAllUptoCard

/-- THE SECOND FORM's CARD OF 'burgagetop.WholeTexts'. -/
def wholeTextsUptoCard : Claim7 := { stood := { row := wholeTextsUptoRow, standIns := [], harness := (true, "70de68f9788c057532edcd85aaa2d6212190bbeca582e98aecb9e90b5ba2387d"), looks := false }, kinds := [], alts := [], laidByText := true, laidKinds := [.data, .data, .data, .data, .pinned], laidTests := true, laidLooks := .later }
def WholeTextsUptoCardSaid : Prop := Claim7.holds Tryz.pinned (.plain (OpenSpec.upto wholeTextsSpec)) wholeTextsUptoCard

/-- THE SECOND FORM's CARD OF 'burgagetop.WholeWays'. -/
def wholeWaysUptoCard : Claim7 := { stood := { row := wholeWaysUptoRow, standIns := [], harness := (true, "70de68f9788c057532edcd85aaa2d6212190bbeca582e98aecb9e90b5ba2387d"), looks := false }, kinds := [], alts := [], laidByText := true, laidKinds := [.data, .data], laidTests := true, laidLooks := .later }
def WholeWaysUptoCardSaid : Prop := Claim7.holds Tryz.pinned (.plain (OpenSpec.upto wholeWaysSpec)) wholeWaysUptoCard
end Rows
end Go.Proofs.YtflalehpdngklaaGreatDoor
