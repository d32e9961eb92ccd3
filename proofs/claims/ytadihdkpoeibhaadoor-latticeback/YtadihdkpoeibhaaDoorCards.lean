/-
  DERIVED. GIVEN WITH THE SEED: THE CARDS: each row of YtadihdkpoeibhaaDoorRows.lean that lists a variable, with what it lists TIED to the program's text (the seventh form; the later family's looks); each row that meets fmt, with fmt's text TOLD by the authors' own Lean function (tested against real Go, not proved from fmt's source: count such statements apart). THE CARD IS WHAT COUNTS. Prove the row's statement (the work); the ties are given (YtadihdkpoeibhaaDoorTie.lean); close each card by the builder's one call (the guide's Derived/Test/ToyasCard.lean, 'card_holds'). Laid BY PROGRAM, IN A SANDBOX (cutbox-door.mjs). By AI agents, Wed Nov 11 2026. No macro, syntax, notation, axiom, sorry.
-/
import Derived.Test.YtadihdkpoeibhaaDoorRows
import GoSem.ClaimSeven
namespace Go.Proofs.YtadihdkpoeibhaaDoor
namespace Rows

/-- THE TIED CARD OF 'burgagelaw19.LatticePlaces'. -/
def latticePlacesCard : Claim7 := { stood := { row := latticePlacesRow, standIns := [], harness := (true, "ac4ed956bb5cd2c4ae7f66520e293ff5f0c91424c2c8b0be989812a5ed3fe488"), looks := false }, kinds := [], alts := [], laidByText := true, laidKinds := [.data], laidTests := true, laidLooks := .later }
def LatticePlacesCardSaid : Prop := Claim7.holds Tryd.pinned (.plain (OpenSpec.ofChange latticePlacesSpec)) latticePlacesCard

/-- THE TIED CARD OF 'burgagelaw19.LatticeBack'. -/
def latticeBackCard : Claim7 := { stood := { row := latticeBackRow, standIns := [], harness := (true, "ac4ed956bb5cd2c4ae7f66520e293ff5f0c91424c2c8b0be989812a5ed3fe488"), looks := false }, kinds := [], alts := [], laidByText := true, laidKinds := [.data], laidTests := true, laidLooks := .later }
def LatticeBackCardSaid : Prop := Claim7.holds Tryd.pinned (.plain (OpenSpec.ofChange latticeBackSpec)) latticeBackCard

/-- THE SECOND FORM's CARD OF 'burgagelaw19.LatticePlaces'. -/
def latticePlacesUptoCard : Claim7 := { stood := { row := latticePlacesUptoRow, standIns := [], harness := (true, "ac4ed956bb5cd2c4ae7f66520e293ff5f0c91424c2c8b0be989812a5ed3fe488"), looks := false }, kinds := [], alts := [], laidByText := true, laidKinds := [.data], laidTests := true, laidLooks := .later }
def LatticePlacesUptoCardSaid : Prop := Claim7.holds Tryd.pinned (.plain (OpenSpec.upto latticePlacesSpec)) latticePlacesUptoCard

/-- THE SECOND FORM's CARD OF 'burgagelaw19.LatticeBack'. -/
def latticeBackUptoCard : Claim7 := { stood := { row := latticeBackUptoRow, standIns := [], harness := (true, "ac4ed956bb5cd2c4ae7f66520e293ff5f0c91424c2c8b0be989812a5ed3fe488"), looks := false }, kinds := [], alts := [], laidByText := true, laidKinds := [.data], laidTests := true, laidLooks := .later }
def LatticeBackUptoCardSaid : Prop := Claim7.holds Tryd.pinned (.plain (OpenSpec.upto latticeBackSpec)) latticeBackUptoCard
end Rows
end Go.Proofs.YtadihdkpoeibhaaDoor
