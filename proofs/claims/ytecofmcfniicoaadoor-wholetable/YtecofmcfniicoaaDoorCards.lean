/-
  DERIVED. GIVEN WITH THE SEED: THE CARDS: each row of YtecofmcfniicoaaDoorRows.lean that lists a variable, with what it lists TIED to the program's text (the seventh form; the later family's looks); each row that meets fmt, with fmt's text TOLD by the authors' own Lean function (tested against real Go, not proved from fmt's source: count such statements apart). THE CARD IS WHAT COUNTS. Prove the row's statement (the work); the ties are given (YtecofmcfniicoaaDoorTie.lean); close each card by the builder's one call (the guide's Derived/Test/ToyasCard.lean, 'card_holds'). Laid BY PROGRAM, IN A SANDBOX (cutbox-door.mjs). By AI agents, Wed Nov 11 2026. No macro, syntax, notation, axiom, sorry.
-/
import Derived.Test.YtecofmcfniicoaaDoorRows
import GoSem.ClaimSeven
namespace Go.Proofs.YtecofmcfniicoaaDoor
namespace Rows

/-- THE TIED CARD OF 'burgagelaw09.LevelNames'. -/
def levelNamesCard : Claim7 := { stood := { row := levelNamesRow, standIns := [], harness := (true, "5ca5131e59a30aa8b9ea5dbba5f99c5196e3249d2bec2224c083e048731a4574"), looks := false }, kinds := [], alts := [], laidByText := true, laidKinds := [.data], laidTests := true, laidLooks := .later }
def LevelNamesCardSaid : Prop := Claim7.holds Tryd.pinned (.plain (OpenSpec.ofChange levelNamesSpec)) levelNamesCard

/-- THE TIED CARD OF 'burgagelaw09.LevelCloses'. -/
def levelClosesCard : Claim7 := { stood := { row := levelClosesRow, standIns := [], harness := (true, "5ca5131e59a30aa8b9ea5dbba5f99c5196e3249d2bec2224c083e048731a4574"), looks := false }, kinds := [], alts := [], laidByText := true, laidKinds := [.data], laidTests := true, laidLooks := .later }
def LevelClosesCardSaid : Prop := Claim7.holds Tryd.pinned (.plain (OpenSpec.ofChange levelClosesSpec)) levelClosesCard

/-- THE TIED CARD OF 'burgagelaw10.TableImplies'. -/
def tableImpliesCard : Claim7 := { stood := { row := tableImpliesRow, standIns := [], harness := (true, "5ca5131e59a30aa8b9ea5dbba5f99c5196e3249d2bec2224c083e048731a4574"), looks := false }, kinds := [], alts := [], laidByText := true, laidKinds := [.data], laidTests := true, laidLooks := .later }
def TableImpliesCardSaid : Prop := Claim7.holds Tryd.pinned (.plain (OpenSpec.ofChange tableImpliesSpec)) tableImpliesCard

/-- THE TIED CARD OF 'burgagelaw10.TableRows'. -/
def tableRowsCard : Claim7 := { stood := { row := tableRowsRow, standIns := [], harness := (true, "5ca5131e59a30aa8b9ea5dbba5f99c5196e3249d2bec2224c083e048731a4574"), looks := false }, kinds := [], alts := [], laidByText := true, laidKinds := [.data], laidTests := true, laidLooks := .later }
def TableRowsCardSaid : Prop := Claim7.holds Tryd.pinned (.plain (OpenSpec.ofChange tableRowsSpec)) tableRowsCard

/-- THE TIED CARD OF 'burgagelaw10.TableOrder'. -/
def tableOrderCard : Claim7 := { stood := { row := tableOrderRow, standIns := [], harness := (true, "5ca5131e59a30aa8b9ea5dbba5f99c5196e3249d2bec2224c083e048731a4574"), looks := false }, kinds := [], alts := [], laidByText := true, laidKinds := [.data], laidTests := true, laidLooks := .later }
def TableOrderCardSaid : Prop := Claim7.holds Tryd.pinned (.plain (OpenSpec.ofChange tableOrderSpec)) tableOrderCard

/-- THE TIED CARD OF 'burgagetop.WholeTable'. -/
def wholeTableCard : Claim7 := { stood := { row := wholeTableRow, standIns := [], harness := (true, "5ca5131e59a30aa8b9ea5dbba5f99c5196e3249d2bec2224c083e048731a4574"), looks := false }, kinds := [], alts := [], laidByText := true, laidKinds := [.data], laidTests := true, laidLooks := .later }
def WholeTableCardSaid : Prop := Claim7.holds Tryd.pinned (.plain (OpenSpec.ofChange wholeTableSpec)) wholeTableCard

/-- THE SECOND FORM's CARD OF 'burgagelaw09.LevelNames'. -/
def levelNamesUptoCard : Claim7 := { stood := { row := levelNamesUptoRow, standIns := [], harness := (true, "5ca5131e59a30aa8b9ea5dbba5f99c5196e3249d2bec2224c083e048731a4574"), looks := false }, kinds := [], alts := [], laidByText := true, laidKinds := [.data], laidTests := true, laidLooks := .later }
def LevelNamesUptoCardSaid : Prop := Claim7.holds Tryd.pinned (.plain (OpenSpec.upto levelNamesSpec)) levelNamesUptoCard

/-- THE SECOND FORM's CARD OF 'burgagelaw09.LevelCloses'. -/
def levelClosesUptoCard : Claim7 := { stood := { row := levelClosesUptoRow, standIns := [], harness := (true, "5ca5131e59a30aa8b9ea5dbba5f99c5196e3249d2bec2224c083e048731a4574"), looks := false }, kinds := [], alts := [], laidByText := true, laidKinds := [.data], laidTests := true, laidLooks := .later }
def LevelClosesUptoCardSaid : Prop := Claim7.holds Tryd.pinned (.plain (OpenSpec.upto levelClosesSpec)) levelClosesUptoCard

/-- THE SECOND FORM's CARD OF 'burgagelaw10.TableImplies'. -/
def tableImpliesUptoCard : Claim7 := { stood := { row := tableImpliesUptoRow, standIns := [], harness := (true, "5ca5131e59a30aa8b9ea5dbba5f99c5196e3249d2bec2224c083e048731a4574"), looks := false }, kinds := [], alts := [], laidByText := true, laidKinds := [.data], laidTests := true, laidLooks := .later }
def TableImpliesUptoCardSaid : Prop := Claim7.holds Tryd.pinned (.plain (OpenSpec.upto tableImpliesSpec)) tableImpliesUptoCard

/-- THE SECOND FORM's CARD OF 'burgagelaw10.TableRows'. -/
def tableRowsUptoCard : Claim7 := { stood := { row := tableRowsUptoRow, standIns := [], harness := (true, "5ca5131e59a30aa8b9ea5dbba5f99c5196e3249d2bec2224c083e048731a4574"), looks := false }, kinds := [], alts := [], laidByText := true, laidKinds := [.data], laidTests := true, laidLooks := .later }
def TableRowsUptoCardSaid : Prop := Claim7.holds Tryd.pinned (.plain (OpenSpec.upto tableRowsSpec)) tableRowsUptoCard

/-- THE SECOND FORM's CARD OF 'burgagelaw10.TableOrder'. -/
def tableOrderUptoCard : Claim7 := { stood := { row := tableOrderUptoRow, standIns := [], harness := (true, "5ca5131e59a30aa8b9ea5dbba5f99c5196e3249d2bec2224c083e048731a4574"), looks := false }, kinds := [], alts := [], laidByText := true, laidKinds := [.data], laidTests := true, laidLooks := .later }
def TableOrderUptoCardSaid : Prop := Claim7.holds Tryd.pinned (.plain (OpenSpec.upto tableOrderSpec)) tableOrderUptoCard

/-- THE SECOND FORM's CARD OF 'burgagetop.WholeTable'. -/
def wholeTableUptoCard : Claim7 := { stood := { row := wholeTableUptoRow, standIns := [], harness := (true, "5ca5131e59a30aa8b9ea5dbba5f99c5196e3249d2bec2224c083e048731a4574"), looks := false }, kinds := [], alts := [], laidByText := true, laidKinds := [.data], laidTests := true, laidLooks := .later }
def WholeTableUptoCardSaid : Prop := Claim7.holds Tryd.pinned (.plain (OpenSpec.upto wholeTableSpec)) wholeTableUptoCard
end Rows
end Go.Proofs.YtecofmcfniicoaaDoor
