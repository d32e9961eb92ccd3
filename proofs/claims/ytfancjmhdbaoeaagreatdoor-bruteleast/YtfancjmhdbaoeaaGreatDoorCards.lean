/-
  DERIVED. GIVEN WITH THE SEED: THE CARDS: each row of YtfancjmhdbaoeaaGreatDoorRows.lean that lists a variable, with what it lists TIED to the program's text (the seventh form; the later family's looks); each row that meets fmt, with fmt's text TOLD by the authors' own Lean function (tested against real Go, not proved from fmt's source: count such statements apart). THE CARD IS WHAT COUNTS. Prove the row's statement (the work); the ties are given (YtfancjmhdbaoeaaGreatDoorTie.lean); close each card by the builder's one call (the guide's Derived/Test/ToyasCard.lean, 'card_holds'). Laid BY PROGRAM, IN A SANDBOX (cutbox-door.mjs). By AI agents, Wed Nov 11 2026. No macro, syntax, notation, axiom, sorry.
-/
import Derived.Test.YtfancjmhdbaoeaaGreatDoorRows
import GoSem.ClaimSeven
namespace Go.Proofs.YtfancjmhdbaoeaaGreatDoor
namespace Rows

/-- THE TIED CARD OF 'burgagelaw13.BruteIn'. -/
def bruteInCard : Claim7 := { stood := { row := bruteInRow, standIns := [], harness := (true, "e8c62a39dee1190f2513ce4f76beed4e2a3afbd2a3590dcb09b9117a48afe709"), looks := false }, kinds := [], alts := [], laidByText := true, laidKinds := [.data, .data], laidTests := true, laidLooks := .later }
def BruteInCardSaid : Prop := Claim7.holds Tryz.pinned (.plain (OpenSpec.ofChange bruteInSpec)) bruteInCard

/-- THE TIED CARD OF 'burgagelaw13.BruteLeast'. -/
def bruteLeastCard : Claim7 := { stood := { row := bruteLeastRow, standIns := [], harness := (true, "e8c62a39dee1190f2513ce4f76beed4e2a3afbd2a3590dcb09b9117a48afe709"), looks := false }, kinds := [], alts := [], laidByText := true, laidKinds := [.data, .data], laidTests := true, laidLooks := .later }
def BruteLeastCardSaid : Prop := Claim7.holds Tryz.pinned (.plain (OpenSpec.ofChange bruteLeastSpec)) bruteLeastCard

/-- THE TIED CARD OF 'burgagelaw13.BruteDecides'. -/
def bruteDecidesCard : Claim7 := { stood := { row := bruteDecidesRow, standIns := [], harness := (true, "e8c62a39dee1190f2513ce4f76beed4e2a3afbd2a3590dcb09b9117a48afe709"), looks := false }, kinds := [], alts := [], laidByText := true, laidKinds := [.data, .data], laidTests := true, laidLooks := .later }
def BruteDecidesCardSaid : Prop := Claim7.holds Tryz.pinned (.plain (OpenSpec.ofChange bruteDecidesSpec)) bruteDecidesCard

/-- THE TIED CARD OF 'burgagelaw14.PlaceTries'. -/
def placeTriesCard : Claim7 := { stood := { row := placeTriesRow, standIns := [], harness := (true, "e8c62a39dee1190f2513ce4f76beed4e2a3afbd2a3590dcb09b9117a48afe709"), looks := false }, kinds := [], alts := [], laidByText := true, laidKinds := [.data], laidTests := true, laidLooks := .later }
def PlaceTriesCardSaid : Prop := Claim7.holds Tryz.pinned (.plain (OpenSpec.ofChange placeTriesSpec)) placeTriesCard

/-- THE TIED CARD OF 'burgagetop.WholeWays'. -/
def wholeWaysCard : Claim7 := { stood := { row := wholeWaysRow, standIns := [], harness := (true, "e8c62a39dee1190f2513ce4f76beed4e2a3afbd2a3590dcb09b9117a48afe709"), looks := false }, kinds := [], alts := [], laidByText := true, laidKinds := [.data, .data], laidTests := true, laidLooks := .later }
def WholeWaysCardSaid : Prop := Claim7.holds Tryz.pinned (.plain (OpenSpec.ofChange wholeWaysSpec)) wholeWaysCard

/-- THE TIED CARD OF 'burgagetop.WholeMemo'. -/
def wholeMemoCard : Claim7 := { stood := { row := wholeMemoRow, standIns := [], harness := (true, "e8c62a39dee1190f2513ce4f76beed4e2a3afbd2a3590dcb09b9117a48afe709"), looks := false }, kinds := [], alts := [], laidByText := true, laidKinds := [.data, .data], laidTests := true, laidLooks := .later }
def WholeMemoCardSaid : Prop := Claim7.holds Tryz.pinned (.plain (OpenSpec.ofChange wholeMemoSpec)) wholeMemoCard

/-- THE SECOND FORM's CARD OF 'burgagelaw13.BruteIn'. -/
def bruteInUptoCard : Claim7 := { stood := { row := bruteInUptoRow, standIns := [], harness := (true, "e8c62a39dee1190f2513ce4f76beed4e2a3afbd2a3590dcb09b9117a48afe709"), looks := false }, kinds := [], alts := [], laidByText := true, laidKinds := [.data, .data], laidTests := true, laidLooks := .later }
def BruteInUptoCardSaid : Prop := Claim7.holds Tryz.pinned (.plain (OpenSpec.upto bruteInSpec)) bruteInUptoCard

/-- THE SECOND FORM's CARD OF 'burgagelaw13.BruteLeast'. -/
def bruteLeastUptoCard : Claim7 := { stood := { row := bruteLeastUptoRow, standIns := [], harness := (true, "e8c62a39dee1190f2513ce4f76beed4e2a3afbd2a3590dcb09b9117a48afe709"), looks := false }, kinds := [], alts := [], laidByText := true, laidKinds := [.data, .data], laidTests := true, laidLooks := .later }
def BruteLeastUptoCardSaid : Prop := Claim7.holds Tryz.pinned (.plain (OpenSpec.upto bruteLeastSpec)) bruteLeastUptoCard

/-- THE SECOND FORM's CARD OF 'burgagelaw13.BruteDecides'. -/
def bruteDecidesUptoCard : Claim7 := { stood := { row := bruteDecidesUptoRow, standIns := [], harness := (true, "e8c62a39dee1190f2513ce4f76beed4e2a3afbd2a3590dcb09b9117a48afe709"), looks := false }, kinds := [], alts := [], laidByText := true, laidKinds := [.data, .data], laidTests := true, laidLooks := .later }
def BruteDecidesUptoCardSaid : Prop := Claim7.holds Tryz.pinned (.plain (OpenSpec.upto bruteDecidesSpec)) bruteDecidesUptoCard

/-- THE SECOND FORM's CARD OF 'burgagelaw14.PlaceTries'. -/
def placeTriesUptoCard : Claim7 := { stood := { row := placeTriesUptoRow, standIns := [], harness := (true, "e8c62a39dee1190f2513ce4f76beed4e2a3afbd2a3590dcb09b9117a48afe709"), looks := false }, kinds := [], alts := [], laidByText := true, laidKinds := [.data], laidTests := true, laidLooks := .later }
def PlaceTriesUptoCardSaid : Prop := Claim7.holds Tryz.pinned (.plain (OpenSpec.upto placeTriesSpec)) placeTriesUptoCard

/-- THE SECOND FORM's CARD OF 'burgagetop.WholeWays'. -/
def wholeWaysUptoCard : Claim7 := { stood := { row := wholeWaysUptoRow, standIns := [], harness := (true, "e8c62a39dee1190f2513ce4f76beed4e2a3afbd2a3590dcb09b9117a48afe709"), looks := false }, kinds := [], alts := [], laidByText := true, laidKinds := [.data, .data], laidTests := true, laidLooks := .later }
def WholeWaysUptoCardSaid : Prop := Claim7.holds Tryz.pinned (.plain (OpenSpec.upto wholeWaysSpec)) wholeWaysUptoCard

/-- THE SECOND FORM's CARD OF 'burgagetop.WholeMemo'. -/
def wholeMemoUptoCard : Claim7 := { stood := { row := wholeMemoUptoRow, standIns := [], harness := (true, "e8c62a39dee1190f2513ce4f76beed4e2a3afbd2a3590dcb09b9117a48afe709"), looks := false }, kinds := [], alts := [], laidByText := true, laidKinds := [.data, .data], laidTests := true, laidLooks := .later }
def WholeMemoUptoCardSaid : Prop := Claim7.holds Tryz.pinned (.plain (OpenSpec.upto wholeMemoSpec)) wholeMemoUptoCard
end Rows
end Go.Proofs.YtfancjmhdbaoeaaGreatDoor
