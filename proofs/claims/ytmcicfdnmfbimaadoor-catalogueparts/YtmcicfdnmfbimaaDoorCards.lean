/-
  DERIVED. GIVEN WITH THE SEED: THE CARDS: each row of YtmcicfdnmfbimaaDoorRows.lean that lists a variable, with what it lists TIED to the program's text (the seventh form; the later family's looks); each row that meets fmt, with fmt's text TOLD by the authors' own Lean function (tested against real Go, not proved from fmt's source: count such statements apart). THE CARD IS WHAT COUNTS. Prove the row's statement (the work); the ties are given (YtmcicfdnmfbimaaDoorTie.lean); close each card by the builder's one call (the guide's Derived/Test/ToyasCard.lean, 'card_holds'). Laid BY PROGRAM, IN A SANDBOX (cutbox-door.mjs). By AI agents, Wed Nov 11 2026. No macro, syntax, notation, axiom, sorry.
-/
import Derived.Test.YtmcicfdnmfbimaaDoorRows
import GoSem.ClaimSeven
namespace Go.Proofs.YtmcicfdnmfbimaaDoor
namespace Rows

/-- THE TIED CARD OF 'burgagelaw19.LatticePlaces'. -/
def latticePlacesCard : Claim7 := { stood := { row := latticePlacesRow, standIns := [], harness := (true, "5c9d9d9005dcccc936e3b04b88b694ad4f8bae6e04539525b33d1925a25d5e3f"), looks := false }, kinds := [], alts := [], laidByText := true, laidKinds := [.data], laidTests := true, laidLooks := .later }
def LatticePlacesCardSaid : Prop := Claim7.holds Tryd.pinned (.plain (OpenSpec.ofChange latticePlacesSpec)) latticePlacesCard

/-- THE TIED CARD OF 'burgagelaw19.LatticeBack'. -/
def latticeBackCard : Claim7 := { stood := { row := latticeBackRow, standIns := [], harness := (true, "5c9d9d9005dcccc936e3b04b88b694ad4f8bae6e04539525b33d1925a25d5e3f"), looks := false }, kinds := [], alts := [], laidByText := true, laidKinds := [.data], laidTests := true, laidLooks := .later }
def LatticeBackCardSaid : Prop := Claim7.holds Tryd.pinned (.plain (OpenSpec.ofChange latticeBackSpec)) latticeBackCard

/-- THE TIED CARD OF 'burgagelaw20.CatalogueParts'. -/
def cataloguePartsCard : Claim7 := { stood := { row := cataloguePartsRow, standIns := [], harness := (true, "5c9d9d9005dcccc936e3b04b88b694ad4f8bae6e04539525b33d1925a25d5e3f"), looks := false }, kinds := [], alts := [], laidByText := true, laidKinds := [.data], laidTests := true, laidLooks := .later }
def CataloguePartsCardSaid : Prop := Claim7.holds Tryd.pinned (.plain (OpenSpec.ofChange cataloguePartsSpec)) cataloguePartsCard

/-- THE TIED CARD OF 'burgagelaw20.CatalogueSound'. -/
def catalogueSoundCard : Claim7 := { stood := { row := catalogueSoundRow, standIns := [], harness := (true, "5c9d9d9005dcccc936e3b04b88b694ad4f8bae6e04539525b33d1925a25d5e3f"), looks := false }, kinds := [], alts := [], laidByText := true, laidKinds := [.data], laidTests := true, laidLooks := .later }
def CatalogueSoundCardSaid : Prop := Claim7.holds Tryd.pinned (.plain (OpenSpec.ofChange catalogueSoundSpec)) catalogueSoundCard

/-- THE SECOND FORM's CARD OF 'burgagelaw19.LatticePlaces'. -/
def latticePlacesUptoCard : Claim7 := { stood := { row := latticePlacesUptoRow, standIns := [], harness := (true, "5c9d9d9005dcccc936e3b04b88b694ad4f8bae6e04539525b33d1925a25d5e3f"), looks := false }, kinds := [], alts := [], laidByText := true, laidKinds := [.data], laidTests := true, laidLooks := .later }
def LatticePlacesUptoCardSaid : Prop := Claim7.holds Tryd.pinned (.plain (OpenSpec.upto latticePlacesSpec)) latticePlacesUptoCard

/-- THE SECOND FORM's CARD OF 'burgagelaw19.LatticeBack'. -/
def latticeBackUptoCard : Claim7 := { stood := { row := latticeBackUptoRow, standIns := [], harness := (true, "5c9d9d9005dcccc936e3b04b88b694ad4f8bae6e04539525b33d1925a25d5e3f"), looks := false }, kinds := [], alts := [], laidByText := true, laidKinds := [.data], laidTests := true, laidLooks := .later }
def LatticeBackUptoCardSaid : Prop := Claim7.holds Tryd.pinned (.plain (OpenSpec.upto latticeBackSpec)) latticeBackUptoCard

/-- THE SECOND FORM's CARD OF 'burgagelaw20.CatalogueParts'. -/
def cataloguePartsUptoCard : Claim7 := { stood := { row := cataloguePartsUptoRow, standIns := [], harness := (true, "5c9d9d9005dcccc936e3b04b88b694ad4f8bae6e04539525b33d1925a25d5e3f"), looks := false }, kinds := [], alts := [], laidByText := true, laidKinds := [.data], laidTests := true, laidLooks := .later }
def CataloguePartsUptoCardSaid : Prop := Claim7.holds Tryd.pinned (.plain (OpenSpec.upto cataloguePartsSpec)) cataloguePartsUptoCard

/-- THE SECOND FORM's CARD OF 'burgagelaw20.CatalogueSound'. -/
def catalogueSoundUptoCard : Claim7 := { stood := { row := catalogueSoundUptoRow, standIns := [], harness := (true, "5c9d9d9005dcccc936e3b04b88b694ad4f8bae6e04539525b33d1925a25d5e3f"), looks := false }, kinds := [], alts := [], laidByText := true, laidKinds := [.data], laidTests := true, laidLooks := .later }
def CatalogueSoundUptoCardSaid : Prop := Claim7.holds Tryd.pinned (.plain (OpenSpec.upto catalogueSoundSpec)) catalogueSoundUptoCard
end Rows
end Go.Proofs.YtmcicfdnmfbimaaDoor
