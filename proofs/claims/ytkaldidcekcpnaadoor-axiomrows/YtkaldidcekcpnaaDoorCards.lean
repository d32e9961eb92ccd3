/-
  DERIVED. GIVEN WITH THE SEED: THE CARDS: each row of YtkaldidcekcpnaaDoorRows.lean that lists a variable, with what it lists TIED to the program's text (the seventh form; the later family's looks); each row that meets fmt, with fmt's text TOLD by the authors' own Lean function (tested against real Go, not proved from fmt's source: count such statements apart). THE CARD IS WHAT COUNTS. Prove the row's statement (the work); the ties are given (YtkaldidcekcpnaaDoorTie.lean); close each card by the builder's one call (the guide's Derived/Test/ToyasCard.lean, 'card_holds'). Laid BY PROGRAM, IN A SANDBOX (cutbox-door.mjs). By AI agents, Wed Nov 11 2026. No macro, syntax, notation, axiom, sorry.
-/
import Derived.Test.YtkaldidcekcpnaaDoorRows
import GoSem.ClaimSeven
namespace Go.Proofs.YtkaldidcekcpnaaDoor
namespace Rows

/-- THE TIED CARD OF 'burgagelaw12.AxiomRows'. -/
def axiomRowsCard : Claim7 := { stood := { row := axiomRowsRow, standIns := [], harness := (true, "654bfc6ea35c7bc307bfaea92480fe0d7087af61803f6e0987103612701943ca"), looks := false }, kinds := [], alts := [], laidByText := true, laidKinds := [.data, .data], laidTests := true, laidLooks := .later }
def AxiomRowsCardSaid : Prop := Claim7.holds Tryd.pinned (.plain (OpenSpec.ofChange axiomRowsSpec)) axiomRowsCard

/-- THE TIED CARD OF 'burgagelaw13.BruteMany'. -/
def bruteManyCard : Claim7 := { stood := { row := bruteManyRow, standIns := [], harness := (true, "654bfc6ea35c7bc307bfaea92480fe0d7087af61803f6e0987103612701943ca"), looks := false }, kinds := [], alts := [], laidByText := true, laidKinds := [.data, .data], laidTests := true, laidLooks := .later }
def BruteManyCardSaid : Prop := Claim7.holds Tryd.pinned (.plain (OpenSpec.ofChange bruteManySpec)) bruteManyCard

/-- THE TIED CARD OF 'burgagelaw14.PlaceBack'. -/
def placeBackCard : Claim7 := { stood := { row := placeBackRow, standIns := [], harness := (true, "654bfc6ea35c7bc307bfaea92480fe0d7087af61803f6e0987103612701943ca"), looks := false }, kinds := [], alts := [], laidByText := true, laidKinds := [.data], laidTests := true, laidLooks := .later }
def PlaceBackCardSaid : Prop := Claim7.holds Tryd.pinned (.plain (OpenSpec.ofChange placeBackSpec)) placeBackCard

/-- THE TIED CARD OF 'burgagetop.WholeLeast'. -/
def wholeLeastCard : Claim7 := { stood := { row := wholeLeastRow, standIns := [], harness := (true, "654bfc6ea35c7bc307bfaea92480fe0d7087af61803f6e0987103612701943ca"), looks := false }, kinds := [], alts := [], laidByText := true, laidKinds := [.data, .data], laidTests := true, laidLooks := .later }
def WholeLeastCardSaid : Prop := Claim7.holds Tryd.pinned (.plain (OpenSpec.ofChange wholeLeastSpec)) wholeLeastCard

/-- THE SECOND FORM's CARD OF 'burgagelaw12.AxiomRows'. -/
def axiomRowsUptoCard : Claim7 := { stood := { row := axiomRowsUptoRow, standIns := [], harness := (true, "654bfc6ea35c7bc307bfaea92480fe0d7087af61803f6e0987103612701943ca"), looks := false }, kinds := [], alts := [], laidByText := true, laidKinds := [.data, .data], laidTests := true, laidLooks := .later }
def AxiomRowsUptoCardSaid : Prop := Claim7.holds Tryd.pinned (.plain (OpenSpec.upto axiomRowsSpec)) axiomRowsUptoCard

/-- THE SECOND FORM's CARD OF 'burgagelaw13.BruteMany'. -/
def bruteManyUptoCard : Claim7 := { stood := { row := bruteManyUptoRow, standIns := [], harness := (true, "654bfc6ea35c7bc307bfaea92480fe0d7087af61803f6e0987103612701943ca"), looks := false }, kinds := [], alts := [], laidByText := true, laidKinds := [.data, .data], laidTests := true, laidLooks := .later }
def BruteManyUptoCardSaid : Prop := Claim7.holds Tryd.pinned (.plain (OpenSpec.upto bruteManySpec)) bruteManyUptoCard

/-- THE SECOND FORM's CARD OF 'burgagelaw14.PlaceBack'. -/
def placeBackUptoCard : Claim7 := { stood := { row := placeBackUptoRow, standIns := [], harness := (true, "654bfc6ea35c7bc307bfaea92480fe0d7087af61803f6e0987103612701943ca"), looks := false }, kinds := [], alts := [], laidByText := true, laidKinds := [.data], laidTests := true, laidLooks := .later }
def PlaceBackUptoCardSaid : Prop := Claim7.holds Tryd.pinned (.plain (OpenSpec.upto placeBackSpec)) placeBackUptoCard

/-- THE SECOND FORM's CARD OF 'burgagetop.WholeLeast'. -/
def wholeLeastUptoCard : Claim7 := { stood := { row := wholeLeastUptoRow, standIns := [], harness := (true, "654bfc6ea35c7bc307bfaea92480fe0d7087af61803f6e0987103612701943ca"), looks := false }, kinds := [], alts := [], laidByText := true, laidKinds := [.data, .data], laidTests := true, laidLooks := .later }
def WholeLeastUptoCardSaid : Prop := Claim7.holds Tryd.pinned (.plain (OpenSpec.upto wholeLeastSpec)) wholeLeastUptoCard
end Rows
end Go.Proofs.YtkaldidcekcpnaaDoor
