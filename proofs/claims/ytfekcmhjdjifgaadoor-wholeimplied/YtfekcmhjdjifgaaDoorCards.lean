/-
  DERIVED. GIVEN WITH THE SEED: THE CARDS: each row of YtfekcmhjdjifgaaDoorRows.lean that lists a variable, with what it lists TIED to the program's text (the seventh form; the later family's looks); each row that meets fmt, with fmt's text TOLD by the authors' own Lean function (tested against real Go, not proved from fmt's source: count such statements apart). THE CARD IS WHAT COUNTS. Prove the row's statement (the work); the ties are given (YtfekcmhjdjifgaaDoorTie.lean); close each card by the builder's one call (the guide's Derived/Test/ToyasCard.lean, 'card_holds'). Laid BY PROGRAM, IN A SANDBOX (cutbox-door.mjs). By AI agents, Wed Nov 11 2026. No macro, syntax, notation, axiom, sorry.
-/
import Derived.Test.YtfekcmhjdjifgaaDoorRows
import GoSem.ClaimSeven
namespace Go.Proofs.YtfekcmhjdjifgaaDoor
namespace Rows

/-- THE TIED CARD OF 'burgagelaw11.LeastMore'. -/
def leastMoreCard : Claim7 := { stood := { row := leastMoreRow, standIns := [], harness := (true, "1b2f4660afd5547221f4aa53ab2fbfefd811221f9a16770f9807e0258dbe27f8"), looks := false }, kinds := [], alts := [], laidByText := true, laidKinds := [.data], laidTests := true, laidLooks := .later }
def LeastMoreCardSaid : Prop := Claim7.holds Tryd.pinned (.plain (OpenSpec.ofChange leastMoreSpec)) leastMoreCard

/-- THE TIED CARD OF 'burgagelaw12.AxiomRows'. -/
def axiomRowsCard : Claim7 := { stood := { row := axiomRowsRow, standIns := [], harness := (true, "1b2f4660afd5547221f4aa53ab2fbfefd811221f9a16770f9807e0258dbe27f8"), looks := false }, kinds := [], alts := [], laidByText := true, laidKinds := [.data, .data], laidTests := true, laidLooks := .later }
def AxiomRowsCardSaid : Prop := Claim7.holds Tryd.pinned (.plain (OpenSpec.ofChange axiomRowsSpec)) axiomRowsCard

/-- THE TIED CARD OF 'burgagetop.WholeImplied'. -/
def wholeImpliedCard : Claim7 := { stood := { row := wholeImpliedRow, standIns := [], harness := (true, "1b2f4660afd5547221f4aa53ab2fbfefd811221f9a16770f9807e0258dbe27f8"), looks := false }, kinds := [], alts := [], laidByText := true, laidKinds := [.data, .data], laidTests := true, laidLooks := .later }
def WholeImpliedCardSaid : Prop := Claim7.holds Tryd.pinned (.plain (OpenSpec.ofChange wholeImpliedSpec)) wholeImpliedCard

/-- THE TIED CARD OF 'burgagetop.WholeLeast'. -/
def wholeLeastCard : Claim7 := { stood := { row := wholeLeastRow, standIns := [], harness := (true, "1b2f4660afd5547221f4aa53ab2fbfefd811221f9a16770f9807e0258dbe27f8"), looks := false }, kinds := [], alts := [], laidByText := true, laidKinds := [.data, .data], laidTests := true, laidLooks := .later }
def WholeLeastCardSaid : Prop := Claim7.holds Tryd.pinned (.plain (OpenSpec.ofChange wholeLeastSpec)) wholeLeastCard

/-- THE SECOND FORM's CARD OF 'burgagelaw11.LeastMore'. -/
def leastMoreUptoCard : Claim7 := { stood := { row := leastMoreUptoRow, standIns := [], harness := (true, "1b2f4660afd5547221f4aa53ab2fbfefd811221f9a16770f9807e0258dbe27f8"), looks := false }, kinds := [], alts := [], laidByText := true, laidKinds := [.data], laidTests := true, laidLooks := .later }
def LeastMoreUptoCardSaid : Prop := Claim7.holds Tryd.pinned (.plain (OpenSpec.upto leastMoreSpec)) leastMoreUptoCard

/-- THE SECOND FORM's CARD OF 'burgagelaw12.AxiomRows'. -/
def axiomRowsUptoCard : Claim7 := { stood := { row := axiomRowsUptoRow, standIns := [], harness := (true, "1b2f4660afd5547221f4aa53ab2fbfefd811221f9a16770f9807e0258dbe27f8"), looks := false }, kinds := [], alts := [], laidByText := true, laidKinds := [.data, .data], laidTests := true, laidLooks := .later }
def AxiomRowsUptoCardSaid : Prop := Claim7.holds Tryd.pinned (.plain (OpenSpec.upto axiomRowsSpec)) axiomRowsUptoCard

/-- THE SECOND FORM's CARD OF 'burgagetop.WholeImplied'. -/
def wholeImpliedUptoCard : Claim7 := { stood := { row := wholeImpliedUptoRow, standIns := [], harness := (true, "1b2f4660afd5547221f4aa53ab2fbfefd811221f9a16770f9807e0258dbe27f8"), looks := false }, kinds := [], alts := [], laidByText := true, laidKinds := [.data, .data], laidTests := true, laidLooks := .later }
def WholeImpliedUptoCardSaid : Prop := Claim7.holds Tryd.pinned (.plain (OpenSpec.upto wholeImpliedSpec)) wholeImpliedUptoCard

/-- THE SECOND FORM's CARD OF 'burgagetop.WholeLeast'. -/
def wholeLeastUptoCard : Claim7 := { stood := { row := wholeLeastUptoRow, standIns := [], harness := (true, "1b2f4660afd5547221f4aa53ab2fbfefd811221f9a16770f9807e0258dbe27f8"), looks := false }, kinds := [], alts := [], laidByText := true, laidKinds := [.data, .data], laidTests := true, laidLooks := .later }
def WholeLeastUptoCardSaid : Prop := Claim7.holds Tryd.pinned (.plain (OpenSpec.upto wholeLeastSpec)) wholeLeastUptoCard
end Rows
end Go.Proofs.YtfekcmhjdjifgaaDoor
