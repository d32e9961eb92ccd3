/-
  NARROWER THAN 'FOR EVERY INPUT', by the rows' own cells (each row's printed sentence says how): SearchLong: laid · VectorAccepts: laid · VectorFuel: laid · VectorRight: laid · LatticeOf: laid · CatalogueEntries: laid · WholeVerdicts: laid · WholeSerial: laid · WholeCatalogue: laid · WholeParts: laid.
  DERIVED. THE GIVEN ROWS OF THIS SEAT. 10 by the template 'for every input the law returns true; each argument reads behind the call as it read before'; 0 by the template 'total and deterministic' (their statements: YtmcicfdnmfbimaaGreatDoorTotals.lean).
  GIVEN WITH THE SEED: the statements are not yours to turn. If you find one false, say at which input.
  Laid BY PROGRAM, IN A SANDBOX (cutbox-rows.mjs): the forced cells as the released guide's own fill.sh prints them over the translation b2d1bb6b3401100f… (all of the seat's roots in one cut). By AI agents, Wed Nov 11 2026. No macro, syntax, notation, axiom, sorry.
-/
import Derived.Test.YtmcicfdnmfbimaaGreatDoorChecked
import GoSem.Claim
import GoSem.ClaimJoined
import GoSem.ClaimMapViews
import Derived.JoinedTies
import Derived.KernelRfl
namespace Go.Proofs.YtmcicfdnmfbimaaGreatDoor
/- THE CELL 'sum', in the pinned program and in every row, IS THE sha256 OF THE DUMP (.gsa) THAT YtmcicfdnmfbimaaGreatDoorProg.lean LOADS. Nothing in Lean hashes anything: it is a label: what it is worth is what the hold of that sum in a sandbox is worth. -/
noncomputable def Tryz.pinned : Pinned := { name := "ytmcicfdnmfbimaagreatdoor", sum := "b2d1bb6b3401100f7d62e258e594fcd269498c101c344a8fbfdfc479447c9621", checked := Tryz.checked }
namespace Rows
def none {H : Type} : Left H := { results := [], args := [] }

/- WHAT THE LISTED PACKAGE-LEVEL VARIABLES READ AS WHEN THE CALL BEGINS. Each datum BY PROGRAM (the guide's laid-datum.mjs) off the statement by which the dump's own 'gosem.cut.vars' lays the variable. In a bare row this is a premise. The card (YtmcicfdnmfbimaaGreatDoorCards.lean) ties it to the program's text. -/
def laid_math_bits_deBruijn64tab {H : Type} : DataW H := .agg [.lit (.int .u8 0), .lit (.int .u8 1), .lit (.int .u8 56), .lit (.int .u8 2), .lit (.int .u8 57), .lit (.int .u8 49), .lit (.int .u8 28), .lit (.int .u8 3), .lit (.int .u8 61), .lit (.int .u8 58), .lit (.int .u8 42), .lit (.int .u8 50), .lit (.int .u8 38), .lit (.int .u8 29), .lit (.int .u8 17), .lit (.int .u8 4), .lit (.int .u8 62), .lit (.int .u8 47), .lit (.int .u8 59), .lit (.int .u8 36), .lit (.int .u8 45), .lit (.int .u8 43), .lit (.int .u8 51), .lit (.int .u8 22), .lit (.int .u8 53), .lit (.int .u8 39), .lit (.int .u8 33), .lit (.int .u8 30), .lit (.int .u8 24), .lit (.int .u8 18), .lit (.int .u8 12), .lit (.int .u8 5), .lit (.int .u8 63), .lit (.int .u8 55), .lit (.int .u8 48), .lit (.int .u8 27), .lit (.int .u8 60), .lit (.int .u8 41), .lit (.int .u8 37), .lit (.int .u8 16), .lit (.int .u8 46), .lit (.int .u8 35), .lit (.int .u8 44), .lit (.int .u8 21), .lit (.int .u8 52), .lit (.int .u8 32), .lit (.int .u8 23), .lit (.int .u8 11), .lit (.int .u8 54), .lit (.int .u8 26), .lit (.int .u8 40), .lit (.int .u8 15), .lit (.int .u8 34), .lit (.int .u8 20), .lit (.int .u8 31), .lit (.int .u8 10), .lit (.int .u8 25), .lit (.int .u8 14), .lit (.int .u8 19), .lit (.int .u8 9), .lit (.int .u8 13), .lit (.int .u8 8), .lit (.int .u8 7), .lit (.int .u8 6)]
def laid_burgage_level_kinds {H : Type} : DataW H := .agg [.agg [.lit (.string [114, 101, 97, 100, 45, 97, 116, 111, 109, 105, 99]), .lit (.int .i64 0)], .agg [.lit (.string [115, 101, 115, 115, 105, 111, 110, 45, 97, 116, 111, 109, 105, 99]), .lit (.int .i64 1)], .agg [.lit (.string [99, 97, 117, 115, 97, 108]), .lit (.int .i64 3)], .agg [.lit (.string [117, 112, 100, 97, 116, 101]), .lit (.int .i64 9)], .agg [.lit (.string [112, 114, 101, 102, 105, 120]), .lit (.int .i64 5)], .agg [.lit (.string [112, 97, 114, 97, 108, 108, 101, 108]), .lit (.int .i64 11)], .agg [.lit (.string [115, 110, 97, 112, 115, 104, 111, 116]), .lit (.int .i64 13)], .agg [.lit (.string [115, 101, 114, 105, 97, 108]), .lit (.int .i64 17)], .agg [.lit (.string [116, 105, 109, 101, 45, 99, 97, 117, 115, 97, 108]), .lit (.int .i64 34)], .agg [.lit (.string [116, 105, 109, 101, 45, 112, 114, 101, 102, 105, 120]), .lit (.int .i64 36)], .agg [.lit (.string [116, 105, 109, 101, 45, 115, 110, 97, 112, 115, 104, 111, 116]), .lit (.int .i64 44)], .agg [.lit (.string [115, 116, 114, 105, 99, 116]), .lit (.int .i64 48)]]

/-- 'burgagelaw17.SearchLong': WHATEVER THE INPUT: true; the input reads as it did. -/
def searchLongSpec : ChangeSpec := { name := "searchLong", fn := fun _ => fun
  | [d1, d2] => { results := [.lit (.bool true)], args := [d1, d2] }
  | _ => none }
def searchLongRow : OpenClaim := { program := "ytmcicfdnmfbimaagreatdoor", sum := "b2d1bb6b3401100f7d62e258e594fcd269498c101c344a8fbfdfc479447c9621", func := "burgage/burgagelaw17.SearchLong", spec := "searchLong", unfollowed := true, recurses := true, named := ["burgage/level.kinds", "math/bits.deBruijn64tab"], plainKeys := false, apart := false, laid := [("math/bits.deBruijn64tab", laid_math_bits_deBruijn64tab), ("burgage/level.kinds", laid_burgage_level_kinds)] }
def SearchLongSaid : Prop := searchLongRow.holds Tryz.pinned (OpenSpec.ofChange searchLongSpec)

/-- ITS FALSE NEIGHBOUR: 'it returns false'. Refute it at one input. -/
def searchLongWrong : ChangeSpec := { name := "searchLong", fn := fun _ => fun
  | [d1, d2] => { results := [.lit (.bool false)], args := [d1, d2] }
  | _ => none }
def SearchLongWrongFalsely : Prop := searchLongRow.holds Tryz.pinned (OpenSpec.ofChange searchLongWrong)

/-- 'burgagelaw18.VectorAccepts': WHATEVER THE INPUT: true; the input reads as it did. -/
def vectorAcceptsSpec : ChangeSpec := { name := "vectorAccepts", fn := fun _ => fun
  | [d1, d2] => { results := [.lit (.bool true)], args := [d1, d2] }
  | _ => none }
def vectorAcceptsRow : OpenClaim := { program := "ytmcicfdnmfbimaagreatdoor", sum := "b2d1bb6b3401100f7d62e258e594fcd269498c101c344a8fbfdfc479447c9621", func := "burgage/burgagelaw18.VectorAccepts", spec := "vectorAccepts", unfollowed := true, recurses := true, named := ["burgage/level.kinds", "math/bits.deBruijn64tab"], plainKeys := false, apart := false, laid := [("math/bits.deBruijn64tab", laid_math_bits_deBruijn64tab), ("burgage/level.kinds", laid_burgage_level_kinds)] }
def VectorAcceptsSaid : Prop := vectorAcceptsRow.holds Tryz.pinned (OpenSpec.ofChange vectorAcceptsSpec)

/-- ITS FALSE NEIGHBOUR: 'it returns false'. Refute it at one input. -/
def vectorAcceptsWrong : ChangeSpec := { name := "vectorAccepts", fn := fun _ => fun
  | [d1, d2] => { results := [.lit (.bool false)], args := [d1, d2] }
  | _ => none }
def VectorAcceptsWrongFalsely : Prop := vectorAcceptsRow.holds Tryz.pinned (OpenSpec.ofChange vectorAcceptsWrong)

/-- 'burgagelaw18.VectorFuel': WHATEVER THE INPUT: true; the input reads as it did. -/
def vectorFuelSpec : ChangeSpec := { name := "vectorFuel", fn := fun _ => fun
  | [d1, d2, d3] => { results := [.lit (.bool true)], args := [d1, d2, d3] }
  | _ => none }
def vectorFuelRow : OpenClaim := { program := "ytmcicfdnmfbimaagreatdoor", sum := "b2d1bb6b3401100f7d62e258e594fcd269498c101c344a8fbfdfc479447c9621", func := "burgage/burgagelaw18.VectorFuel", spec := "vectorFuel", unfollowed := true, recurses := true, named := ["burgage/level.kinds", "math/bits.deBruijn64tab"], plainKeys := false, apart := false, laid := [("math/bits.deBruijn64tab", laid_math_bits_deBruijn64tab), ("burgage/level.kinds", laid_burgage_level_kinds)] }
def VectorFuelSaid : Prop := vectorFuelRow.holds Tryz.pinned (OpenSpec.ofChange vectorFuelSpec)

/-- ITS FALSE NEIGHBOUR: 'it returns false'. Refute it at one input. -/
def vectorFuelWrong : ChangeSpec := { name := "vectorFuel", fn := fun _ => fun
  | [d1, d2, d3] => { results := [.lit (.bool false)], args := [d1, d2, d3] }
  | _ => none }
def VectorFuelWrongFalsely : Prop := vectorFuelRow.holds Tryz.pinned (OpenSpec.ofChange vectorFuelWrong)

/-- 'burgagelaw18.VectorRight': WHATEVER THE INPUT: true; the input reads as it did. -/
def vectorRightSpec : ChangeSpec := { name := "vectorRight", fn := fun _ => fun
  | [d1, d2, d3] => { results := [.lit (.bool true)], args := [d1, d2, d3] }
  | _ => none }
def vectorRightRow : OpenClaim := { program := "ytmcicfdnmfbimaagreatdoor", sum := "b2d1bb6b3401100f7d62e258e594fcd269498c101c344a8fbfdfc479447c9621", func := "burgage/burgagelaw18.VectorRight", spec := "vectorRight", unfollowed := true, recurses := true, named := ["burgage/level.kinds", "math/bits.deBruijn64tab"], plainKeys := false, apart := false, laid := [("math/bits.deBruijn64tab", laid_math_bits_deBruijn64tab), ("burgage/level.kinds", laid_burgage_level_kinds)] }
def VectorRightSaid : Prop := vectorRightRow.holds Tryz.pinned (OpenSpec.ofChange vectorRightSpec)

/-- ITS FALSE NEIGHBOUR: 'it returns false'. Refute it at one input. -/
def vectorRightWrong : ChangeSpec := { name := "vectorRight", fn := fun _ => fun
  | [d1, d2, d3] => { results := [.lit (.bool false)], args := [d1, d2, d3] }
  | _ => none }
def VectorRightWrongFalsely : Prop := vectorRightRow.holds Tryz.pinned (OpenSpec.ofChange vectorRightWrong)

/-- 'burgagelaw19.LatticeOf': WHATEVER THE INPUT: true; the input reads as it did. -/
def latticeOfSpec : ChangeSpec := { name := "latticeOf", fn := fun _ => fun
  | [d] => { results := [.lit (.bool true)], args := [d] }
  | _ => none }
def latticeOfRow : OpenClaim := { program := "ytmcicfdnmfbimaagreatdoor", sum := "b2d1bb6b3401100f7d62e258e594fcd269498c101c344a8fbfdfc479447c9621", func := "burgage/burgagelaw19.LatticeOf", spec := "latticeOf", inPlace := ["internal/abi.NoEscape", "internal/bytealg.MakeNoZero"], unfollowed := true, recurses := true, named := ["burgage/level.kinds", "math/bits.deBruijn64tab"], plainKeys := false, apart := false, laid := [("math/bits.deBruijn64tab", laid_math_bits_deBruijn64tab), ("burgage/level.kinds", laid_burgage_level_kinds)] }
def LatticeOfSaid : Prop := latticeOfRow.holds Tryz.pinned (OpenSpec.ofChange latticeOfSpec)

/-- ITS FALSE NEIGHBOUR: 'it returns false'. Refute it at one input. -/
def latticeOfWrong : ChangeSpec := { name := "latticeOf", fn := fun _ => fun
  | [d] => { results := [.lit (.bool false)], args := [d] }
  | _ => none }
def LatticeOfWrongFalsely : Prop := latticeOfRow.holds Tryz.pinned (OpenSpec.ofChange latticeOfWrong)

/-- 'burgagelaw20.CatalogueEntries': WHATEVER THE INPUT: true; the input reads as it did. -/
def catalogueEntriesSpec : ChangeSpec := { name := "catalogueEntries", fn := fun _ => fun
  | [d] => { results := [.lit (.bool true)], args := [d] }
  | _ => none }
def catalogueEntriesRow : OpenClaim := { program := "ytmcicfdnmfbimaagreatdoor", sum := "b2d1bb6b3401100f7d62e258e594fcd269498c101c344a8fbfdfc479447c9621", func := "burgage/burgagelaw20.CatalogueEntries", spec := "catalogueEntries", unfollowed := true, recurses := true, named := ["burgage/level.kinds", "math/bits.deBruijn64tab"], plainKeys := false, apart := false, laid := [("math/bits.deBruijn64tab", laid_math_bits_deBruijn64tab), ("burgage/level.kinds", laid_burgage_level_kinds)] }
def CatalogueEntriesSaid : Prop := catalogueEntriesRow.holds Tryz.pinned (OpenSpec.ofChange catalogueEntriesSpec)

/-- ITS FALSE NEIGHBOUR: 'it returns false'. Refute it at one input. -/
def catalogueEntriesWrong : ChangeSpec := { name := "catalogueEntries", fn := fun _ => fun
  | [d] => { results := [.lit (.bool false)], args := [d] }
  | _ => none }
def CatalogueEntriesWrongFalsely : Prop := catalogueEntriesRow.holds Tryz.pinned (OpenSpec.ofChange catalogueEntriesWrong)

/-- 'burgagetop.WholeVerdicts': WHATEVER THE INPUT: true; the input reads as it did. -/
def wholeVerdictsSpec : ChangeSpec := { name := "wholeVerdicts", fn := fun _ => fun
  | [d] => { results := [.lit (.bool true)], args := [d] }
  | _ => none }
def wholeVerdictsRow : OpenClaim := { program := "ytmcicfdnmfbimaagreatdoor", sum := "b2d1bb6b3401100f7d62e258e594fcd269498c101c344a8fbfdfc479447c9621", func := "burgage/burgagetop.WholeVerdicts", spec := "wholeVerdicts", unfollowed := true, recurses := true, named := ["burgage/level.kinds", "math/bits.deBruijn64tab"], plainKeys := false, apart := false, laid := [("math/bits.deBruijn64tab", laid_math_bits_deBruijn64tab), ("burgage/level.kinds", laid_burgage_level_kinds)] }
def WholeVerdictsSaid : Prop := wholeVerdictsRow.holds Tryz.pinned (OpenSpec.ofChange wholeVerdictsSpec)

/-- ITS FALSE NEIGHBOUR: 'it returns false'. Refute it at one input. -/
def wholeVerdictsWrong : ChangeSpec := { name := "wholeVerdicts", fn := fun _ => fun
  | [d] => { results := [.lit (.bool false)], args := [d] }
  | _ => none }
def WholeVerdictsWrongFalsely : Prop := wholeVerdictsRow.holds Tryz.pinned (OpenSpec.ofChange wholeVerdictsWrong)

/-- 'burgagetop.WholeSerial': WHATEVER THE INPUT: true; the input reads as it did. -/
def wholeSerialSpec : ChangeSpec := { name := "wholeSerial", fn := fun _ => fun
  | [d] => { results := [.lit (.bool true)], args := [d] }
  | _ => none }
def wholeSerialRow : OpenClaim := { program := "ytmcicfdnmfbimaagreatdoor", sum := "b2d1bb6b3401100f7d62e258e594fcd269498c101c344a8fbfdfc479447c9621", func := "burgage/burgagetop.WholeSerial", spec := "wholeSerial", unfollowed := true, recurses := true, named := ["burgage/level.kinds", "math/bits.deBruijn64tab"], plainKeys := false, apart := false, laid := [("math/bits.deBruijn64tab", laid_math_bits_deBruijn64tab), ("burgage/level.kinds", laid_burgage_level_kinds)] }
def WholeSerialSaid : Prop := wholeSerialRow.holds Tryz.pinned (OpenSpec.ofChange wholeSerialSpec)

/-- ITS FALSE NEIGHBOUR: 'it returns false'. Refute it at one input. -/
def wholeSerialWrong : ChangeSpec := { name := "wholeSerial", fn := fun _ => fun
  | [d] => { results := [.lit (.bool false)], args := [d] }
  | _ => none }
def WholeSerialWrongFalsely : Prop := wholeSerialRow.holds Tryz.pinned (OpenSpec.ofChange wholeSerialWrong)

/-- 'burgagetop.WholeCatalogue': WHATEVER THE INPUT: true; the input reads as it did. -/
def wholeCatalogueSpec : ChangeSpec := { name := "wholeCatalogue", fn := fun _ => fun
  | [d] => { results := [.lit (.bool true)], args := [d] }
  | _ => none }
def wholeCatalogueRow : OpenClaim := { program := "ytmcicfdnmfbimaagreatdoor", sum := "b2d1bb6b3401100f7d62e258e594fcd269498c101c344a8fbfdfc479447c9621", func := "burgage/burgagetop.WholeCatalogue", spec := "wholeCatalogue", inPlace := ["internal/abi.NoEscape", "internal/bytealg.MakeNoZero"], unfollowed := true, recurses := true, named := ["burgage/level.kinds", "math/bits.deBruijn64tab"], plainKeys := false, apart := false, laid := [("math/bits.deBruijn64tab", laid_math_bits_deBruijn64tab), ("burgage/level.kinds", laid_burgage_level_kinds)] }
def WholeCatalogueSaid : Prop := wholeCatalogueRow.holds Tryz.pinned (OpenSpec.ofChange wholeCatalogueSpec)

/-- ITS FALSE NEIGHBOUR: 'it returns false'. Refute it at one input. -/
def wholeCatalogueWrong : ChangeSpec := { name := "wholeCatalogue", fn := fun _ => fun
  | [d] => { results := [.lit (.bool false)], args := [d] }
  | _ => none }
def WholeCatalogueWrongFalsely : Prop := wholeCatalogueRow.holds Tryz.pinned (OpenSpec.ofChange wholeCatalogueWrong)

/-- 'burgagetop.WholeParts': WHATEVER THE INPUT: true; the input reads as it did. -/
def wholePartsSpec : ChangeSpec := { name := "wholeParts", fn := fun _ => fun
  | [d] => { results := [.lit (.bool true)], args := [d] }
  | _ => none }
def wholePartsRow : OpenClaim := { program := "ytmcicfdnmfbimaagreatdoor", sum := "b2d1bb6b3401100f7d62e258e594fcd269498c101c344a8fbfdfc479447c9621", func := "burgage/burgagetop.WholeParts", spec := "wholeParts", unfollowed := true, recurses := true, named := ["burgage/level.kinds", "math/bits.deBruijn64tab"], plainKeys := false, apart := false, laid := [("math/bits.deBruijn64tab", laid_math_bits_deBruijn64tab), ("burgage/level.kinds", laid_burgage_level_kinds)] }
def WholePartsSaid : Prop := wholePartsRow.holds Tryz.pinned (OpenSpec.ofChange wholePartsSpec)

/-- ITS FALSE NEIGHBOUR: 'it returns false'. Refute it at one input. -/
def wholePartsWrong : ChangeSpec := { name := "wholeParts", fn := fun _ => fun
  | [d] => { results := [.lit (.bool false)], args := [d] }
  | _ => none }
def WholePartsWrongFalsely : Prop := wholePartsRow.holds Tryz.pinned (OpenSpec.ofChange wholePartsWrong)

/- THE SECOND FORM. 'bulk': how many values and letters a reading holds, each counted each time it is reached (what is shared counts as often as it is met; a slice's spare places count too). A statement '..UptoSaid' is the law's where the arguments, and the package variables that the reading takes, are together of bulk at most 1048576: NARROWER than '..Said'. Prove '..Said' where nothing that the law and all that it calls make is longer than what came in: it says more and counts as full. Else prove '..UptoSaid'. A law counts once. -/
mutual
def uptoBulk {H : Type} : DataW H → Nat
  | .lit (.string bytes) => bytes.length + 1
  | .lit _ => 1
  | .nil => 1
  | .ptr d => uptoBulk d + 1
  | .slice elems spare => uptoBulkAll elems + uptoBulkAll spare + 1
  | .agg parts => uptoBulkAll parts + 1
  | .iface _ d => uptoBulk d + 1
  | .map entries => uptoBulkEntries entries + 1
  | .held _ => 1
def uptoBulkAll {H : Type} : List (DataW H) → Nat
  | [] => 0
  | d :: r => uptoBulk d + uptoBulkAll r
def uptoBulkEntries {H : Type} : List (Lit × DataW H) → Nat
  | [] => 0
  | x :: r => uptoBulkEntry x + uptoBulkEntries r
def uptoBulkEntry {H : Type} : Lit × DataW H → Nat
  | (.string bytes, d) => bytes.length + uptoBulk d + 1
  | (_, d) => uptoBulk d + 1
 end
def uptoSmall : (H : Type) → List (DataW H) → Bool := fun _ ds => decide (uptoBulkAll ds ≤ 1048576)
def OpenSpec.upto (s : _root_.Go.ChangeSpec) : _root_.Go.OpenSpec := { _root_.Go.OpenSpec.ofChange s with cond := some uptoSmall }

/-- 'burgagelaw17.SearchLong', WHERE WHAT IT READS IS OF BULK AT MOST 1048576: true; the input reads as it did. -/
def searchLongUptoRow : OpenClaim := { program := "ytmcicfdnmfbimaagreatdoor", sum := "b2d1bb6b3401100f7d62e258e594fcd269498c101c344a8fbfdfc479447c9621", func := "burgage/burgagelaw17.SearchLong", spec := "searchLong", unfollowed := true, recurses := true, named := ["burgage/level.kinds", "math/bits.deBruijn64tab"], plainKeys := false, apart := false, laid := [("math/bits.deBruijn64tab", laid_math_bits_deBruijn64tab), ("burgage/level.kinds", laid_burgage_level_kinds)], narrowed := true }
def SearchLongUptoSaid : Prop := searchLongUptoRow.holds Tryz.pinned (OpenSpec.upto searchLongSpec)

/-- 'burgagelaw18.VectorAccepts', WHERE WHAT IT READS IS OF BULK AT MOST 1048576: true; the input reads as it did. -/
def vectorAcceptsUptoRow : OpenClaim := { program := "ytmcicfdnmfbimaagreatdoor", sum := "b2d1bb6b3401100f7d62e258e594fcd269498c101c344a8fbfdfc479447c9621", func := "burgage/burgagelaw18.VectorAccepts", spec := "vectorAccepts", unfollowed := true, recurses := true, named := ["burgage/level.kinds", "math/bits.deBruijn64tab"], plainKeys := false, apart := false, laid := [("math/bits.deBruijn64tab", laid_math_bits_deBruijn64tab), ("burgage/level.kinds", laid_burgage_level_kinds)], narrowed := true }
def VectorAcceptsUptoSaid : Prop := vectorAcceptsUptoRow.holds Tryz.pinned (OpenSpec.upto vectorAcceptsSpec)

/-- 'burgagelaw18.VectorFuel', WHERE WHAT IT READS IS OF BULK AT MOST 1048576: true; the input reads as it did. -/
def vectorFuelUptoRow : OpenClaim := { program := "ytmcicfdnmfbimaagreatdoor", sum := "b2d1bb6b3401100f7d62e258e594fcd269498c101c344a8fbfdfc479447c9621", func := "burgage/burgagelaw18.VectorFuel", spec := "vectorFuel", unfollowed := true, recurses := true, named := ["burgage/level.kinds", "math/bits.deBruijn64tab"], plainKeys := false, apart := false, laid := [("math/bits.deBruijn64tab", laid_math_bits_deBruijn64tab), ("burgage/level.kinds", laid_burgage_level_kinds)], narrowed := true }
def VectorFuelUptoSaid : Prop := vectorFuelUptoRow.holds Tryz.pinned (OpenSpec.upto vectorFuelSpec)

/-- 'burgagelaw18.VectorRight', WHERE WHAT IT READS IS OF BULK AT MOST 1048576: true; the input reads as it did. -/
def vectorRightUptoRow : OpenClaim := { program := "ytmcicfdnmfbimaagreatdoor", sum := "b2d1bb6b3401100f7d62e258e594fcd269498c101c344a8fbfdfc479447c9621", func := "burgage/burgagelaw18.VectorRight", spec := "vectorRight", unfollowed := true, recurses := true, named := ["burgage/level.kinds", "math/bits.deBruijn64tab"], plainKeys := false, apart := false, laid := [("math/bits.deBruijn64tab", laid_math_bits_deBruijn64tab), ("burgage/level.kinds", laid_burgage_level_kinds)], narrowed := true }
def VectorRightUptoSaid : Prop := vectorRightUptoRow.holds Tryz.pinned (OpenSpec.upto vectorRightSpec)

/-- 'burgagelaw19.LatticeOf', WHERE WHAT IT READS IS OF BULK AT MOST 1048576: true; the input reads as it did. -/
def latticeOfUptoRow : OpenClaim := { program := "ytmcicfdnmfbimaagreatdoor", sum := "b2d1bb6b3401100f7d62e258e594fcd269498c101c344a8fbfdfc479447c9621", func := "burgage/burgagelaw19.LatticeOf", spec := "latticeOf", inPlace := ["internal/abi.NoEscape", "internal/bytealg.MakeNoZero"], unfollowed := true, recurses := true, named := ["burgage/level.kinds", "math/bits.deBruijn64tab"], plainKeys := false, apart := false, laid := [("math/bits.deBruijn64tab", laid_math_bits_deBruijn64tab), ("burgage/level.kinds", laid_burgage_level_kinds)], narrowed := true }
def LatticeOfUptoSaid : Prop := latticeOfUptoRow.holds Tryz.pinned (OpenSpec.upto latticeOfSpec)

/-- 'burgagelaw20.CatalogueEntries', WHERE WHAT IT READS IS OF BULK AT MOST 1048576: true; the input reads as it did. -/
def catalogueEntriesUptoRow : OpenClaim := { program := "ytmcicfdnmfbimaagreatdoor", sum := "b2d1bb6b3401100f7d62e258e594fcd269498c101c344a8fbfdfc479447c9621", func := "burgage/burgagelaw20.CatalogueEntries", spec := "catalogueEntries", unfollowed := true, recurses := true, named := ["burgage/level.kinds", "math/bits.deBruijn64tab"], plainKeys := false, apart := false, laid := [("math/bits.deBruijn64tab", laid_math_bits_deBruijn64tab), ("burgage/level.kinds", laid_burgage_level_kinds)], narrowed := true }
def CatalogueEntriesUptoSaid : Prop := catalogueEntriesUptoRow.holds Tryz.pinned (OpenSpec.upto catalogueEntriesSpec)

/-- 'burgagetop.WholeVerdicts', WHERE WHAT IT READS IS OF BULK AT MOST 1048576: true; the input reads as it did. -/
def wholeVerdictsUptoRow : OpenClaim := { program := "ytmcicfdnmfbimaagreatdoor", sum := "b2d1bb6b3401100f7d62e258e594fcd269498c101c344a8fbfdfc479447c9621", func := "burgage/burgagetop.WholeVerdicts", spec := "wholeVerdicts", unfollowed := true, recurses := true, named := ["burgage/level.kinds", "math/bits.deBruijn64tab"], plainKeys := false, apart := false, laid := [("math/bits.deBruijn64tab", laid_math_bits_deBruijn64tab), ("burgage/level.kinds", laid_burgage_level_kinds)], narrowed := true }
def WholeVerdictsUptoSaid : Prop := wholeVerdictsUptoRow.holds Tryz.pinned (OpenSpec.upto wholeVerdictsSpec)

/-- 'burgagetop.WholeSerial', WHERE WHAT IT READS IS OF BULK AT MOST 1048576: true; the input reads as it did. -/
def wholeSerialUptoRow : OpenClaim := { program := "ytmcicfdnmfbimaagreatdoor", sum := "b2d1bb6b3401100f7d62e258e594fcd269498c101c344a8fbfdfc479447c9621", func := "burgage/burgagetop.WholeSerial", spec := "wholeSerial", unfollowed := true, recurses := true, named := ["burgage/level.kinds", "math/bits.deBruijn64tab"], plainKeys := false, apart := false, laid := [("math/bits.deBruijn64tab", laid_math_bits_deBruijn64tab), ("burgage/level.kinds", laid_burgage_level_kinds)], narrowed := true }
def WholeSerialUptoSaid : Prop := wholeSerialUptoRow.holds Tryz.pinned (OpenSpec.upto wholeSerialSpec)

/-- 'burgagetop.WholeCatalogue', WHERE WHAT IT READS IS OF BULK AT MOST 1048576: true; the input reads as it did. -/
def wholeCatalogueUptoRow : OpenClaim := { program := "ytmcicfdnmfbimaagreatdoor", sum := "b2d1bb6b3401100f7d62e258e594fcd269498c101c344a8fbfdfc479447c9621", func := "burgage/burgagetop.WholeCatalogue", spec := "wholeCatalogue", inPlace := ["internal/abi.NoEscape", "internal/bytealg.MakeNoZero"], unfollowed := true, recurses := true, named := ["burgage/level.kinds", "math/bits.deBruijn64tab"], plainKeys := false, apart := false, laid := [("math/bits.deBruijn64tab", laid_math_bits_deBruijn64tab), ("burgage/level.kinds", laid_burgage_level_kinds)], narrowed := true }
def WholeCatalogueUptoSaid : Prop := wholeCatalogueUptoRow.holds Tryz.pinned (OpenSpec.upto wholeCatalogueSpec)

/-- 'burgagetop.WholeParts', WHERE WHAT IT READS IS OF BULK AT MOST 1048576: true; the input reads as it did. -/
def wholePartsUptoRow : OpenClaim := { program := "ytmcicfdnmfbimaagreatdoor", sum := "b2d1bb6b3401100f7d62e258e594fcd269498c101c344a8fbfdfc479447c9621", func := "burgage/burgagetop.WholeParts", spec := "wholeParts", unfollowed := true, recurses := true, named := ["burgage/level.kinds", "math/bits.deBruijn64tab"], plainKeys := false, apart := false, laid := [("math/bits.deBruijn64tab", laid_math_bits_deBruijn64tab), ("burgage/level.kinds", laid_burgage_level_kinds)], narrowed := true }
def WholePartsUptoSaid : Prop := wholePartsUptoRow.holds Tryz.pinned (OpenSpec.upto wholePartsSpec)

end Rows
end Go.Proofs.YtmcicfdnmfbimaaGreatDoor
