/-
  DERIVED. GIVEN WITH THE SEED: THE CARDS: each row of YtflalehpdngklaaDoorRows.lean that lists a variable, with what it lists TIED to the program's text (the seventh form; the later family's looks); each row that meets fmt, with fmt's text TOLD by the authors' own Lean function (tested against real Go, not proved from fmt's source: count such statements apart). THE CARD IS WHAT COUNTS. Prove the row's statement (the work); the ties are given (YtflalehpdngklaaDoorTie.lean); close each card by the builder's one call (the guide's Derived/Test/ToyasCard.lean, 'card_holds'). Laid BY PROGRAM, IN A SANDBOX (cutbox-door.mjs). By AI agents, Wed Nov 11 2026. No macro, syntax, notation, axiom, sorry.
-/
import Derived.Test.YtflalehpdngklaaDoorRows
import GoSem.ClaimSeven
namespace Go.Proofs.YtflalehpdngklaaDoor
namespace Rows

/-- THE TIED CARD OF 'burgagelaw13.BruteMany'. -/
def bruteManyCard : Claim7 := { stood := { row := bruteManyRow, standIns := [], harness := (true, "d8def0290359a8da286ab482199b56a688a1d39fb2110286dcd53d0cee28483a"), looks := false }, kinds := [], alts := [], laidByText := true, laidKinds := [.data, .data], laidTests := true, laidLooks := .later }
def BruteManyCardSaid : Prop := Claim7.holds Tryd.pinned (.plain (OpenSpec.ofChange bruteManySpec)) bruteManyCard

/-- THE TIED CARD OF 'burgagelaw14.PlaceBack'. -/
def placeBackCard : Claim7 := { stood := { row := placeBackRow, standIns := [], harness := (true, "d8def0290359a8da286ab482199b56a688a1d39fb2110286dcd53d0cee28483a"), looks := false }, kinds := [], alts := [], laidByText := true, laidKinds := [.data], laidTests := true, laidLooks := .later }
def PlaceBackCardSaid : Prop := Claim7.holds Tryd.pinned (.plain (OpenSpec.ofChange placeBackSpec)) placeBackCard

/-- THE SECOND FORM's CARD OF 'burgagelaw13.BruteMany'. -/
def bruteManyUptoCard : Claim7 := { stood := { row := bruteManyUptoRow, standIns := [], harness := (true, "d8def0290359a8da286ab482199b56a688a1d39fb2110286dcd53d0cee28483a"), looks := false }, kinds := [], alts := [], laidByText := true, laidKinds := [.data, .data], laidTests := true, laidLooks := .later }
def BruteManyUptoCardSaid : Prop := Claim7.holds Tryd.pinned (.plain (OpenSpec.upto bruteManySpec)) bruteManyUptoCard

/-- THE SECOND FORM's CARD OF 'burgagelaw14.PlaceBack'. -/
def placeBackUptoCard : Claim7 := { stood := { row := placeBackUptoRow, standIns := [], harness := (true, "d8def0290359a8da286ab482199b56a688a1d39fb2110286dcd53d0cee28483a"), looks := false }, kinds := [], alts := [], laidByText := true, laidKinds := [.data], laidTests := true, laidLooks := .later }
def PlaceBackUptoCardSaid : Prop := Claim7.holds Tryd.pinned (.plain (OpenSpec.upto placeBackSpec)) placeBackUptoCard
end Rows
end Go.Proofs.YtflalehpdngklaaDoor
