/-
  NARROWER THAN 'FOR EVERY INPUT', by the rows' own cells (each row's printed sentence says how): LatticePlaces: laid · LatticeBack: laid · CatalogueParts: laid · CatalogueSound: laid.
  DERIVED. THE GIVEN ROWS OF THIS SEAT. 4 by the template 'for every input the law returns true; each argument reads behind the call as it read before'; 0 by the template 'total and deterministic' (their statements: YtmcicfdnmfbimaaDoorTotals.lean).
  GIVEN WITH THE SEED: the statements are not yours to turn. If you find one false, say at which input.
  Laid BY PROGRAM, IN A SANDBOX (cutbox-rows.mjs): the forced cells as the released guide's own fill.sh prints them over the translation 7eb202f356310d66… (all of the seat's roots in one cut). By AI agents, Wed Nov 11 2026. No macro, syntax, notation, axiom, sorry.
-/
import Derived.Test.YtmcicfdnmfbimaaDoorChecked
import GoSem.Claim
import GoSem.ClaimJoined
import GoSem.ClaimMapViews
import Derived.JoinedTies
import Derived.KernelRfl
namespace Go.Proofs.YtmcicfdnmfbimaaDoor
/- THE CELL 'sum', in the pinned program and in every row, IS THE sha256 OF THE DUMP (.gsa) THAT YtmcicfdnmfbimaaDoorProg.lean LOADS. Nothing in Lean hashes anything: it is a label: what it is worth is what the hold of that sum in a sandbox is worth. -/
noncomputable def Tryd.pinned : Pinned := { name := "ytmcicfdnmfbimaadoor", sum := "7eb202f356310d669d91079d47d0ef7ef1624ec7268de78e0d9d1b9ac347701a", checked := Tryd.checked }
namespace Rows
def none {H : Type} : Left H := { results := [], args := [] }

/- WHAT THE LISTED PACKAGE-LEVEL VARIABLES READ AS WHEN THE CALL BEGINS. Each datum BY PROGRAM (the guide's laid-datum.mjs) off the statement by which the dump's own 'gosem.cut.vars' lays the variable. In a bare row this is a premise. The card (YtmcicfdnmfbimaaDoorCards.lean) ties it to the program's text. -/
def laid_burgage_level_kinds {H : Type} : DataW H := .agg [.agg [.lit (.string [114, 101, 97, 100, 45, 97, 116, 111, 109, 105, 99]), .lit (.int .i64 0)], .agg [.lit (.string [115, 101, 115, 115, 105, 111, 110, 45, 97, 116, 111, 109, 105, 99]), .lit (.int .i64 1)], .agg [.lit (.string [99, 97, 117, 115, 97, 108]), .lit (.int .i64 3)], .agg [.lit (.string [117, 112, 100, 97, 116, 101]), .lit (.int .i64 9)], .agg [.lit (.string [112, 114, 101, 102, 105, 120]), .lit (.int .i64 5)], .agg [.lit (.string [112, 97, 114, 97, 108, 108, 101, 108]), .lit (.int .i64 11)], .agg [.lit (.string [115, 110, 97, 112, 115, 104, 111, 116]), .lit (.int .i64 13)], .agg [.lit (.string [115, 101, 114, 105, 97, 108]), .lit (.int .i64 17)], .agg [.lit (.string [116, 105, 109, 101, 45, 99, 97, 117, 115, 97, 108]), .lit (.int .i64 34)], .agg [.lit (.string [116, 105, 109, 101, 45, 112, 114, 101, 102, 105, 120]), .lit (.int .i64 36)], .agg [.lit (.string [116, 105, 109, 101, 45, 115, 110, 97, 112, 115, 104, 111, 116]), .lit (.int .i64 44)], .agg [.lit (.string [115, 116, 114, 105, 99, 116]), .lit (.int .i64 48)]]

/-- 'burgagelaw19.LatticePlaces': WHATEVER THE INPUT: true; the input reads as it did. -/
def latticePlacesSpec : ChangeSpec := { name := "latticePlaces", fn := fun _ => fun
  | [d] => { results := [.lit (.bool true)], args := [d] }
  | _ => none }
def latticePlacesRow : OpenClaim := { program := "ytmcicfdnmfbimaadoor", sum := "7eb202f356310d669d91079d47d0ef7ef1624ec7268de78e0d9d1b9ac347701a", func := "burgage/burgagelaw19.LatticePlaces", spec := "latticePlaces", inPlace := ["internal/abi.NoEscape", "internal/bytealg.MakeNoZero"], named := ["burgage/level.kinds"], apart := false, laid := [("burgage/level.kinds", laid_burgage_level_kinds)] }
def LatticePlacesSaid : Prop := latticePlacesRow.holds Tryd.pinned (OpenSpec.ofChange latticePlacesSpec)

/-- ITS FALSE NEIGHBOUR: 'it returns false'. Refute it at one input. -/
def latticePlacesWrong : ChangeSpec := { name := "latticePlaces", fn := fun _ => fun
  | [d] => { results := [.lit (.bool false)], args := [d] }
  | _ => none }
def LatticePlacesWrongFalsely : Prop := latticePlacesRow.holds Tryd.pinned (OpenSpec.ofChange latticePlacesWrong)

/-- 'burgagelaw19.LatticeBack': WHATEVER THE INPUT: true; the input reads as it did. -/
def latticeBackSpec : ChangeSpec := { name := "latticeBack", fn := fun _ => fun
  | [d] => { results := [.lit (.bool true)], args := [d] }
  | _ => none }
def latticeBackRow : OpenClaim := { program := "ytmcicfdnmfbimaadoor", sum := "7eb202f356310d669d91079d47d0ef7ef1624ec7268de78e0d9d1b9ac347701a", func := "burgage/burgagelaw19.LatticeBack", spec := "latticeBack", inPlace := ["internal/abi.NoEscape", "internal/bytealg.MakeNoZero"], named := ["burgage/level.kinds"], apart := false, laid := [("burgage/level.kinds", laid_burgage_level_kinds)] }
def LatticeBackSaid : Prop := latticeBackRow.holds Tryd.pinned (OpenSpec.ofChange latticeBackSpec)

/-- ITS FALSE NEIGHBOUR: 'it returns false'. Refute it at one input. -/
def latticeBackWrong : ChangeSpec := { name := "latticeBack", fn := fun _ => fun
  | [d] => { results := [.lit (.bool false)], args := [d] }
  | _ => none }
def LatticeBackWrongFalsely : Prop := latticeBackRow.holds Tryd.pinned (OpenSpec.ofChange latticeBackWrong)

/-- 'burgagelaw20.CatalogueParts': WHATEVER THE INPUT: true; the input reads as it did. -/
def cataloguePartsSpec : ChangeSpec := { name := "catalogueParts", fn := fun _ => fun
  | [d1, d2] => { results := [.lit (.bool true)], args := [d1, d2] }
  | _ => none }
def cataloguePartsRow : OpenClaim := { program := "ytmcicfdnmfbimaadoor", sum := "7eb202f356310d669d91079d47d0ef7ef1624ec7268de78e0d9d1b9ac347701a", func := "burgage/burgagelaw20.CatalogueParts", spec := "catalogueParts", recurses := true, named := ["burgage/level.kinds"], apart := false, laid := [("burgage/level.kinds", laid_burgage_level_kinds)] }
def CataloguePartsSaid : Prop := cataloguePartsRow.holds Tryd.pinned (OpenSpec.ofChange cataloguePartsSpec)

/-- ITS FALSE NEIGHBOUR: 'it returns false'. Refute it at one input. -/
def cataloguePartsWrong : ChangeSpec := { name := "catalogueParts", fn := fun _ => fun
  | [d1, d2] => { results := [.lit (.bool false)], args := [d1, d2] }
  | _ => none }
def CataloguePartsWrongFalsely : Prop := cataloguePartsRow.holds Tryd.pinned (OpenSpec.ofChange cataloguePartsWrong)

/-- 'burgagelaw20.CatalogueSound': WHATEVER THE INPUT: true; the input reads as it did. -/
def catalogueSoundSpec : ChangeSpec := { name := "catalogueSound", fn := fun _ => fun
  | [d1, d2, d3] => { results := [.lit (.bool true)], args := [d1, d2, d3] }
  | _ => none }
def catalogueSoundRow : OpenClaim := { program := "ytmcicfdnmfbimaadoor", sum := "7eb202f356310d669d91079d47d0ef7ef1624ec7268de78e0d9d1b9ac347701a", func := "burgage/burgagelaw20.CatalogueSound", spec := "catalogueSound", recurses := true, named := ["burgage/level.kinds"], apart := false, laid := [("burgage/level.kinds", laid_burgage_level_kinds)] }
def CatalogueSoundSaid : Prop := catalogueSoundRow.holds Tryd.pinned (OpenSpec.ofChange catalogueSoundSpec)

/-- ITS FALSE NEIGHBOUR: 'it returns false'. Refute it at one input. -/
def catalogueSoundWrong : ChangeSpec := { name := "catalogueSound", fn := fun _ => fun
  | [d1, d2, d3] => { results := [.lit (.bool false)], args := [d1, d2, d3] }
  | _ => none }
def CatalogueSoundWrongFalsely : Prop := catalogueSoundRow.holds Tryd.pinned (OpenSpec.ofChange catalogueSoundWrong)

/- THE SECOND FORM. 'bulk': how many values and letters a reading holds, each counted each time it is reached (what is shared counts as often as it is met; a slice's spare places count too). A statement '..UptoSaid' is the law's where the arguments, and the package variables that the reading takes, are together of bulk at most 1048576: NARROWER than '..Said'. Prove '..Said' where nothing that the law and all that it calls make is longer than what came in: it says more and counts as full. Else prove '..UptoSaid'. A law counts once. -/
mutual
def uptoBulk {H : Type} : DataW H → Nat
  | .lit (.string bytes) => bytes.length + 1
  | .lit _ => 1
  | .nil => 1
  | .ptr d => uptoBulk d + 1
  | .slice elems spare => uptoBulkAll elems + uptoBulkAll spare + 1
  | .agg parts => uptoBulkAll parts + 1
  | .iface _ d => uptoBulk d + 1
  | .map entries => uptoBulkEntries entries + 1
  | .held _ => 1
def uptoBulkAll {H : Type} : List (DataW H) → Nat
  | [] => 0
  | d :: r => uptoBulk d + uptoBulkAll r
def uptoBulkEntries {H : Type} : List (Lit × DataW H) → Nat
  | [] => 0
  | x :: r => uptoBulkEntry x + uptoBulkEntries r
def uptoBulkEntry {H : Type} : Lit × DataW H → Nat
  | (.string bytes, d) => bytes.length + uptoBulk d + 1
  | (_, d) => uptoBulk d + 1
 end
def uptoSmall : (H : Type) → List (DataW H) → Bool := fun _ ds => decide (uptoBulkAll ds ≤ 1048576)
def OpenSpec.upto (s : _root_.Go.ChangeSpec) : _root_.Go.OpenSpec := { _root_.Go.OpenSpec.ofChange s with cond := some uptoSmall }

/-- 'burgagelaw19.LatticePlaces', WHERE WHAT IT READS IS OF BULK AT MOST 1048576: true; the input reads as it did. -/
def latticePlacesUptoRow : OpenClaim := { program := "ytmcicfdnmfbimaadoor", sum := "7eb202f356310d669d91079d47d0ef7ef1624ec7268de78e0d9d1b9ac347701a", func := "burgage/burgagelaw19.LatticePlaces", spec := "latticePlaces", inPlace := ["internal/abi.NoEscape", "internal/bytealg.MakeNoZero"], named := ["burgage/level.kinds"], apart := false, laid := [("burgage/level.kinds", laid_burgage_level_kinds)], narrowed := true }
def LatticePlacesUptoSaid : Prop := latticePlacesUptoRow.holds Tryd.pinned (OpenSpec.upto latticePlacesSpec)

/-- 'burgagelaw19.LatticeBack', WHERE WHAT IT READS IS OF BULK AT MOST 1048576: true; the input reads as it did. -/
def latticeBackUptoRow : OpenClaim := { program := "ytmcicfdnmfbimaadoor", sum := "7eb202f356310d669d91079d47d0ef7ef1624ec7268de78e0d9d1b9ac347701a", func := "burgage/burgagelaw19.LatticeBack", spec := "latticeBack", inPlace := ["internal/abi.NoEscape", "internal/bytealg.MakeNoZero"], named := ["burgage/level.kinds"], apart := false, laid := [("burgage/level.kinds", laid_burgage_level_kinds)], narrowed := true }
def LatticeBackUptoSaid : Prop := latticeBackUptoRow.holds Tryd.pinned (OpenSpec.upto latticeBackSpec)

/-- 'burgagelaw20.CatalogueParts', WHERE WHAT IT READS IS OF BULK AT MOST 1048576: true; the input reads as it did. -/
def cataloguePartsUptoRow : OpenClaim := { program := "ytmcicfdnmfbimaadoor", sum := "7eb202f356310d669d91079d47d0ef7ef1624ec7268de78e0d9d1b9ac347701a", func := "burgage/burgagelaw20.CatalogueParts", spec := "catalogueParts", recurses := true, named := ["burgage/level.kinds"], apart := false, laid := [("burgage/level.kinds", laid_burgage_level_kinds)], narrowed := true }
def CataloguePartsUptoSaid : Prop := cataloguePartsUptoRow.holds Tryd.pinned (OpenSpec.upto cataloguePartsSpec)

/-- 'burgagelaw20.CatalogueSound', WHERE WHAT IT READS IS OF BULK AT MOST 1048576: true; the input reads as it did. -/
def catalogueSoundUptoRow : OpenClaim := { program := "ytmcicfdnmfbimaadoor", sum := "7eb202f356310d669d91079d47d0ef7ef1624ec7268de78e0d9d1b9ac347701a", func := "burgage/burgagelaw20.CatalogueSound", spec := "catalogueSound", recurses := true, named := ["burgage/level.kinds"], apart := false, laid := [("burgage/level.kinds", laid_burgage_level_kinds)], narrowed := true }
def CatalogueSoundUptoSaid : Prop := catalogueSoundUptoRow.holds Tryd.pinned (OpenSpec.upto catalogueSoundSpec)

end Rows
end Go.Proofs.YtmcicfdnmfbimaaDoor
