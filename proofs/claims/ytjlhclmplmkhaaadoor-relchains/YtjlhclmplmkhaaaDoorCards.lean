/-
  DERIVED. GIVEN WITH THE SEED: THE CARDS: each row of YtjlhclmplmkhaaaDoorRows.lean that lists a variable, with what it lists TIED to the program's text (the seventh form; the later family's looks); each row that meets fmt, with fmt's text TOLD by the authors' own Lean function (tested against real Go, not proved from fmt's source: count such statements apart). THE CARD IS WHAT COUNTS. Prove the row's statement (the work); the ties are given (YtjlhclmplmkhaaaDoorTie.lean); close each card by the builder's one call (the guide's Derived/Test/ToyasCard.lean, 'card_holds'). Laid BY PROGRAM, IN A SANDBOX (cutbox-door.mjs). By AI agents, Wed Nov 11 2026. No macro, syntax, notation, axiom, sorry.
-/
import Derived.Test.YtjlhclmplmkhaaaDoorRows
import GoSem.ClaimSeven
namespace Go.Proofs.YtjlhclmplmkhaaaDoor
namespace Rows

/-- THE TIED CARD OF 'burgagelaw01.SetParts'. -/
def setPartsCard : Claim7 := { stood := { row := setPartsRow, standIns := [], harness := (true, "bfd57b68666d816986f8b151c119265f97831eb69f3035c450a5dd35305cc882"), looks := false }, kinds := [], alts := [], laidByText := true, laidKinds := [.data], laidTests := true, laidLooks := .later }
def SetPartsCardSaid : Prop := Claim7.holds Tryd.pinned (.plain (OpenSpec.ofChange setPartsSpec)) setPartsCard

/-- THE TIED CARD OF 'burgagelaw01.SetLists'. -/
def setListsCard : Claim7 := { stood := { row := setListsRow, standIns := [], harness := (true, "bfd57b68666d816986f8b151c119265f97831eb69f3035c450a5dd35305cc882"), looks := false }, kinds := [], alts := [], laidByText := true, laidKinds := [.data], laidTests := true, laidLooks := .later }
def SetListsCardSaid : Prop := Claim7.holds Tryd.pinned (.plain (OpenSpec.ofChange setListsSpec)) setListsCard

/-- THE TIED CARD OF 'burgagelaw01.SetBack'. -/
def setBackCard : Claim7 := { stood := { row := setBackRow, standIns := [], harness := (true, "bfd57b68666d816986f8b151c119265f97831eb69f3035c450a5dd35305cc882"), looks := false }, kinds := [], alts := [], laidByText := true, laidKinds := [.data], laidTests := true, laidLooks := .later }
def SetBackCardSaid : Prop := Claim7.holds Tryd.pinned (.plain (OpenSpec.ofChange setBackSpec)) setBackCard

/-- THE TIED CARD OF 'burgagelaw02.RelParts'. -/
def relPartsCard : Claim7 := { stood := { row := relPartsRow, standIns := [], harness := (true, "bfd57b68666d816986f8b151c119265f97831eb69f3035c450a5dd35305cc882"), looks := false }, kinds := [], alts := [], laidByText := true, laidKinds := [.data], laidTests := true, laidLooks := .later }
def RelPartsCardSaid : Prop := Claim7.holds Tryd.pinned (.plain (OpenSpec.ofChange relPartsSpec)) relPartsCard

/-- THE TIED CARD OF 'burgagelaw02.RelSorts'. -/
def relSortsCard : Claim7 := { stood := { row := relSortsRow, standIns := [], harness := (true, "bfd57b68666d816986f8b151c119265f97831eb69f3035c450a5dd35305cc882"), looks := false }, kinds := [], alts := [], laidByText := true, laidKinds := [.data], laidTests := true, laidLooks := .later }
def RelSortsCardSaid : Prop := Claim7.holds Tryd.pinned (.plain (OpenSpec.ofChange relSortsSpec)) relSortsCard

/-- THE TIED CARD OF 'burgagelaw02.RelCycles'. -/
def relCyclesCard : Claim7 := { stood := { row := relCyclesRow, standIns := [], harness := (true, "bfd57b68666d816986f8b151c119265f97831eb69f3035c450a5dd35305cc882"), looks := false }, kinds := [], alts := [], laidByText := true, laidKinds := [.data], laidTests := true, laidLooks := .later }
def RelCyclesCardSaid : Prop := Claim7.holds Tryd.pinned (.plain (OpenSpec.ofChange relCyclesSpec)) relCyclesCard

/-- THE TIED CARD OF 'burgagelaw02.RelChains'. -/
def relChainsCard : Claim7 := { stood := { row := relChainsRow, standIns := [], harness := (true, "bfd57b68666d816986f8b151c119265f97831eb69f3035c450a5dd35305cc882"), looks := false }, kinds := [], alts := [], laidByText := true, laidKinds := [.data], laidTests := true, laidLooks := .later }
def RelChainsCardSaid : Prop := Claim7.holds Tryd.pinned (.plain (OpenSpec.ofChange relChainsSpec)) relChainsCard

/-- THE TIED CARD OF 'burgagetop.WholeSteps'. -/
def wholeStepsCard : Claim7 := { stood := { row := wholeStepsRow, standIns := [], harness := (true, "bfd57b68666d816986f8b151c119265f97831eb69f3035c450a5dd35305cc882"), looks := false }, kinds := [], alts := [], laidByText := true, laidKinds := [.data], laidTests := true, laidLooks := .later }
def WholeStepsCardSaid : Prop := Claim7.holds Tryd.pinned (.plain (OpenSpec.ofChange wholeStepsSpec)) wholeStepsCard

/-- THE SECOND FORM's CARD OF 'burgagelaw01.SetParts'. -/
def setPartsUptoCard : Claim7 := { stood := { row := setPartsUptoRow, standIns := [], harness := (true, "bfd57b68666d816986f8b151c119265f97831eb69f3035c450a5dd35305cc882"), looks := false }, kinds := [], alts := [], laidByText := true, laidKinds := [.data], laidTests := true, laidLooks := .later }
def SetPartsUptoCardSaid : Prop := Claim7.holds Tryd.pinned (.plain (OpenSpec.upto setPartsSpec)) setPartsUptoCard

/-- THE SECOND FORM's CARD OF 'burgagelaw01.SetLists'. -/
def setListsUptoCard : Claim7 := { stood := { row := setListsUptoRow, standIns := [], harness := (true, "bfd57b68666d816986f8b151c119265f97831eb69f3035c450a5dd35305cc882"), looks := false }, kinds := [], alts := [], laidByText := true, laidKinds := [.data], laidTests := true, laidLooks := .later }
def SetListsUptoCardSaid : Prop := Claim7.holds Tryd.pinned (.plain (OpenSpec.upto setListsSpec)) setListsUptoCard

/-- THE SECOND FORM's CARD OF 'burgagelaw01.SetBack'. -/
def setBackUptoCard : Claim7 := { stood := { row := setBackUptoRow, standIns := [], harness := (true, "bfd57b68666d816986f8b151c119265f97831eb69f3035c450a5dd35305cc882"), looks := false }, kinds := [], alts := [], laidByText := true, laidKinds := [.data], laidTests := true, laidLooks := .later }
def SetBackUptoCardSaid : Prop := Claim7.holds Tryd.pinned (.plain (OpenSpec.upto setBackSpec)) setBackUptoCard

/-- THE SECOND FORM's CARD OF 'burgagelaw02.RelParts'. -/
def relPartsUptoCard : Claim7 := { stood := { row := relPartsUptoRow, standIns := [], harness := (true, "bfd57b68666d816986f8b151c119265f97831eb69f3035c450a5dd35305cc882"), looks := false }, kinds := [], alts := [], laidByText := true, laidKinds := [.data], laidTests := true, laidLooks := .later }
def RelPartsUptoCardSaid : Prop := Claim7.holds Tryd.pinned (.plain (OpenSpec.upto relPartsSpec)) relPartsUptoCard

/-- THE SECOND FORM's CARD OF 'burgagelaw02.RelSorts'. -/
def relSortsUptoCard : Claim7 := { stood := { row := relSortsUptoRow, standIns := [], harness := (true, "bfd57b68666d816986f8b151c119265f97831eb69f3035c450a5dd35305cc882"), looks := false }, kinds := [], alts := [], laidByText := true, laidKinds := [.data], laidTests := true, laidLooks := .later }
def RelSortsUptoCardSaid : Prop := Claim7.holds Tryd.pinned (.plain (OpenSpec.upto relSortsSpec)) relSortsUptoCard

/-- THE SECOND FORM's CARD OF 'burgagelaw02.RelCycles'. -/
def relCyclesUptoCard : Claim7 := { stood := { row := relCyclesUptoRow, standIns := [], harness := (true, "bfd57b68666d816986f8b151c119265f97831eb69f3035c450a5dd35305cc882"), looks := false }, kinds := [], alts := [], laidByText := true, laidKinds := [.data], laidTests := true, laidLooks := .later }
def RelCyclesUptoCardSaid : Prop := Claim7.holds Tryd.pinned (.plain (OpenSpec.upto relCyclesSpec)) relCyclesUptoCard

/-- THE SECOND FORM's CARD OF 'burgagelaw02.RelChains'. -/
def relChainsUptoCard : Claim7 := { stood := { row := relChainsUptoRow, standIns := [], harness := (true, "bfd57b68666d816986f8b151c119265f97831eb69f3035c450a5dd35305cc882"), looks := false }, kinds := [], alts := [], laidByText := true, laidKinds := [.data], laidTests := true, laidLooks := .later }
def RelChainsUptoCardSaid : Prop := Claim7.holds Tryd.pinned (.plain (OpenSpec.upto relChainsSpec)) relChainsUptoCard

/-- THE SECOND FORM's CARD OF 'burgagetop.WholeSteps'. -/
def wholeStepsUptoCard : Claim7 := { stood := { row := wholeStepsUptoRow, standIns := [], harness := (true, "bfd57b68666d816986f8b151c119265f97831eb69f3035c450a5dd35305cc882"), looks := false }, kinds := [], alts := [], laidByText := true, laidKinds := [.data], laidTests := true, laidLooks := .later }
def WholeStepsUptoCardSaid : Prop := Claim7.holds Tryd.pinned (.plain (OpenSpec.upto wholeStepsSpec)) wholeStepsUptoCard
end Rows
end Go.Proofs.YtjlhclmplmkhaaaDoor
