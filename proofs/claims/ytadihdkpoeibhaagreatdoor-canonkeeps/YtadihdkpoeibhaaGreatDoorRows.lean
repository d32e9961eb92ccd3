/-
  NARROWER THAN 'FOR EVERY INPUT', by the rows' own cells (each row's printed sentence says how): LatticeOf: laid · CatalogueEntries: laid · RenameKeeps: laid · CanonKeeps: laid · WholeSerial: laid · WholeCatalogue: laid · WholeNames: laid · WholeSessions: laid.
  DERIVED. THE GIVEN ROWS OF THIS SEAT. 8 by the template 'for every input the law returns true; each argument reads behind the call as it read before'; 0 by the template 'total and deterministic' (their statements: YtadihdkpoeibhaaGreatDoorTotals.lean).
  GIVEN WITH THE SEED: the statements are not yours to turn. If you find one false, say at which input.
  Laid BY PROGRAM, IN A SANDBOX (cutbox-rows.mjs): the forced cells as the released guide's own fill.sh prints them over the translation 7d76ef3fef561c48… (all of the seat's roots in one cut). By AI agents, Wed Nov 11 2026. No macro, syntax, notation, axiom, sorry.
-/
import Derived.Test.YtadihdkpoeibhaaGreatDoorChecked
import GoSem.Claim
import GoSem.ClaimJoined
import GoSem.ClaimMapViews
import Derived.JoinedTies
import Derived.KernelRfl
namespace Go.Proofs.YtadihdkpoeibhaaGreatDoor
/- THE CELL 'sum', in the pinned program and in every row, IS THE sha256 OF THE DUMP (.gsa) THAT YtadihdkpoeibhaaGreatDoorProg.lean LOADS. Nothing in Lean hashes anything: it is a label: what it is worth is what the hold of that sum in a sandbox is worth. -/
noncomputable def Tryz.pinned : Pinned := { name := "ytadihdkpoeibhaagreatdoor", sum := "7d76ef3fef561c484274d94743537044dfcae75fd0f558b147e81c664cf37b39", checked := Tryz.checked }
namespace Rows
def none {H : Type} : Left H := { results := [], args := [] }

/- WHAT THE LISTED PACKAGE-LEVEL VARIABLES READ AS WHEN THE CALL BEGINS. Each datum BY PROGRAM (the guide's laid-datum.mjs) off the statement by which the dump's own 'gosem.cut.vars' lays the variable. In a bare row this is a premise. The card (YtadihdkpoeibhaaGreatDoorCards.lean) ties it to the program's text. -/
def laid_math_bits_deBruijn64tab {H : Type} : DataW H := .agg [.lit (.int .u8 0), .lit (.int .u8 1), .lit (.int .u8 56), .lit (.int .u8 2), .lit (.int .u8 57), .lit (.int .u8 49), .lit (.int .u8 28), .lit (.int .u8 3), .lit (.int .u8 61), .lit (.int .u8 58), .lit (.int .u8 42), .lit (.int .u8 50), .lit (.int .u8 38), .lit (.int .u8 29), .lit (.int .u8 17), .lit (.int .u8 4), .lit (.int .u8 62), .lit (.int .u8 47), .lit (.int .u8 59), .lit (.int .u8 36), .lit (.int .u8 45), .lit (.int .u8 43), .lit (.int .u8 51), .lit (.int .u8 22), .lit (.int .u8 53), .lit (.int .u8 39), .lit (.int .u8 33), .lit (.int .u8 30), .lit (.int .u8 24), .lit (.int .u8 18), .lit (.int .u8 12), .lit (.int .u8 5), .lit (.int .u8 63), .lit (.int .u8 55), .lit (.int .u8 48), .lit (.int .u8 27), .lit (.int .u8 60), .lit (.int .u8 41), .lit (.int .u8 37), .lit (.int .u8 16), .lit (.int .u8 46), .lit (.int .u8 35), .lit (.int .u8 44), .lit (.int .u8 21), .lit (.int .u8 52), .lit (.int .u8 32), .lit (.int .u8 23), .lit (.int .u8 11), .lit (.int .u8 54), .lit (.int .u8 26), .lit (.int .u8 40), .lit (.int .u8 15), .lit (.int .u8 34), .lit (.int .u8 20), .lit (.int .u8 31), .lit (.int .u8 10), .lit (.int .u8 25), .lit (.int .u8 14), .lit (.int .u8 19), .lit (.int .u8 9), .lit (.int .u8 13), .lit (.int .u8 8), .lit (.int .u8 7), .lit (.int .u8 6)]
def laid_burgage_level_kinds {H : Type} : DataW H := .agg [.agg [.lit (.string [114, 101, 97, 100, 45, 97, 116, 111, 109, 105, 99]), .lit (.int .i64 0)], .agg [.lit (.string [115, 101, 115, 115, 105, 111, 110, 45, 97, 116, 111, 109, 105, 99]), .lit (.int .i64 1)], .agg [.lit (.string [99, 97, 117, 115, 97, 108]), .lit (.int .i64 3)], .agg [.lit (.string [117, 112, 100, 97, 116, 101]), .lit (.int .i64 9)], .agg [.lit (.string [112, 114, 101, 102, 105, 120]), .lit (.int .i64 5)], .agg [.lit (.string [112, 97, 114, 97, 108, 108, 101, 108]), .lit (.int .i64 11)], .agg [.lit (.string [115, 110, 97, 112, 115, 104, 111, 116]), .lit (.int .i64 13)], .agg [.lit (.string [115, 101, 114, 105, 97, 108]), .lit (.int .i64 17)], .agg [.lit (.string [116, 105, 109, 101, 45, 99, 97, 117, 115, 97, 108]), .lit (.int .i64 34)], .agg [.lit (.string [116, 105, 109, 101, 45, 112, 114, 101, 102, 105, 120]), .lit (.int .i64 36)], .agg [.lit (.string [116, 105, 109, 101, 45, 115, 110, 97, 112, 115, 104, 111, 116]), .lit (.int .i64 44)], .agg [.lit (.string [115, 116, 114, 105, 99, 116]), .lit (.int .i64 48)]]

/-- 'burgagelaw19.LatticeOf': WHATEVER THE INPUT: true; the input reads as it did. -/
def latticeOfSpec : ChangeSpec := { name := "latticeOf", fn := fun _ => fun
  | [d] => { results := [.lit (.bool true)], args := [d] }
  | _ => none }
def latticeOfRow : OpenClaim := { program := "ytadihdkpoeibhaagreatdoor", sum := "7d76ef3fef561c484274d94743537044dfcae75fd0f558b147e81c664cf37b39", func := "burgage/burgagelaw19.LatticeOf", spec := "latticeOf", inPlace := ["internal/abi.NoEscape", "internal/bytealg.MakeNoZero"], unfollowed := true, recurses := true, named := ["burgage/level.kinds", "math/bits.deBruijn64tab"], plainKeys := false, apart := false, laid := [("math/bits.deBruijn64tab", laid_math_bits_deBruijn64tab), ("burgage/level.kinds", laid_burgage_level_kinds)] }
def LatticeOfSaid : Prop := latticeOfRow.holds Tryz.pinned (OpenSpec.ofChange latticeOfSpec)

/-- ITS FALSE NEIGHBOUR: 'it returns false'. Refute it at one input. -/
def latticeOfWrong : ChangeSpec := { name := "latticeOf", fn := fun _ => fun
  | [d] => { results := [.lit (.bool false)], args := [d] }
  | _ => none }
def LatticeOfWrongFalsely : Prop := latticeOfRow.holds Tryz.pinned (OpenSpec.ofChange latticeOfWrong)

/-- 'burgagelaw20.CatalogueEntries': WHATEVER THE INPUT: true; the input reads as it did. -/
def catalogueEntriesSpec : ChangeSpec := { name := "catalogueEntries", fn := fun _ => fun
  | [d] => { results := [.lit (.bool true)], args := [d] }
  | _ => none }
def catalogueEntriesRow : OpenClaim := { program := "ytadihdkpoeibhaagreatdoor", sum := "7d76ef3fef561c484274d94743537044dfcae75fd0f558b147e81c664cf37b39", func := "burgage/burgagelaw20.CatalogueEntries", spec := "catalogueEntries", unfollowed := true, recurses := true, named := ["burgage/level.kinds", "math/bits.deBruijn64tab"], plainKeys := false, apart := false, laid := [("math/bits.deBruijn64tab", laid_math_bits_deBruijn64tab), ("burgage/level.kinds", laid_burgage_level_kinds)] }
def CatalogueEntriesSaid : Prop := catalogueEntriesRow.holds Tryz.pinned (OpenSpec.ofChange catalogueEntriesSpec)

/-- ITS FALSE NEIGHBOUR: 'it returns false'. Refute it at one input. -/
def catalogueEntriesWrong : ChangeSpec := { name := "catalogueEntries", fn := fun _ => fun
  | [d] => { results := [.lit (.bool false)], args := [d] }
  | _ => none }
def CatalogueEntriesWrongFalsely : Prop := catalogueEntriesRow.holds Tryz.pinned (OpenSpec.ofChange catalogueEntriesWrong)

/-- 'burgagelaw21.RenameKeeps': WHATEVER THE INPUT: true; the input reads as it did. -/
def renameKeepsSpec : ChangeSpec := { name := "renameKeeps", fn := fun _ => fun
  | [d1, d2] => { results := [.lit (.bool true)], args := [d1, d2] }
  | _ => none }
def renameKeepsRow : OpenClaim := { program := "ytadihdkpoeibhaagreatdoor", sum := "7d76ef3fef561c484274d94743537044dfcae75fd0f558b147e81c664cf37b39", func := "burgage/burgagelaw21.RenameKeeps", spec := "renameKeeps", inPlace := ["maps.clone"], unfollowed := true, recurses := true, named := ["burgage/level.kinds", "math/bits.deBruijn64tab"], plainKeys := false, apart := false, laid := [("math/bits.deBruijn64tab", laid_math_bits_deBruijn64tab), ("burgage/level.kinds", laid_burgage_level_kinds)] }
def RenameKeepsSaid : Prop := renameKeepsRow.holds Tryz.pinned (OpenSpec.ofChange renameKeepsSpec)

/-- ITS FALSE NEIGHBOUR: 'it returns false'. Refute it at one input. -/
def renameKeepsWrong : ChangeSpec := { name := "renameKeeps", fn := fun _ => fun
  | [d1, d2] => { results := [.lit (.bool false)], args := [d1, d2] }
  | _ => none }
def RenameKeepsWrongFalsely : Prop := renameKeepsRow.holds Tryz.pinned (OpenSpec.ofChange renameKeepsWrong)

/-- 'burgagelaw22.CanonKeeps': WHATEVER THE INPUT: true; the input reads as it did. -/
def canonKeepsSpec : ChangeSpec := { name := "canonKeeps", fn := fun _ => fun
  | [d] => { results := [.lit (.bool true)], args := [d] }
  | _ => none }
def canonKeepsRow : OpenClaim := { program := "ytadihdkpoeibhaagreatdoor", sum := "7d76ef3fef561c484274d94743537044dfcae75fd0f558b147e81c664cf37b39", func := "burgage/burgagelaw22.CanonKeeps", spec := "canonKeeps", unfollowed := true, recurses := true, named := ["burgage/level.kinds", "math/bits.deBruijn64tab"], plainKeys := false, apart := false, laid := [("math/bits.deBruijn64tab", laid_math_bits_deBruijn64tab), ("burgage/level.kinds", laid_burgage_level_kinds)] }
def CanonKeepsSaid : Prop := canonKeepsRow.holds Tryz.pinned (OpenSpec.ofChange canonKeepsSpec)

/-- ITS FALSE NEIGHBOUR: 'it returns false'. Refute it at one input. -/
def canonKeepsWrong : ChangeSpec := { name := "canonKeeps", fn := fun _ => fun
  | [d] => { results := [.lit (.bool false)], args := [d] }
  | _ => none }
def CanonKeepsWrongFalsely : Prop := canonKeepsRow.holds Tryz.pinned (OpenSpec.ofChange canonKeepsWrong)

/-- 'burgagetop.WholeSerial': WHATEVER THE INPUT: true; the input reads as it did. -/
def wholeSerialSpec : ChangeSpec := { name := "wholeSerial", fn := fun _ => fun
  | [d] => { results := [.lit (.bool true)], args := [d] }
  | _ => none }
def wholeSerialRow : OpenClaim := { program := "ytadihdkpoeibhaagreatdoor", sum := "7d76ef3fef561c484274d94743537044dfcae75fd0f558b147e81c664cf37b39", func := "burgage/burgagetop.WholeSerial", spec := "wholeSerial", unfollowed := true, recurses := true, named := ["burgage/level.kinds", "math/bits.deBruijn64tab"], plainKeys := false, apart := false, laid := [("math/bits.deBruijn64tab", laid_math_bits_deBruijn64tab), ("burgage/level.kinds", laid_burgage_level_kinds)] }
def WholeSerialSaid : Prop := wholeSerialRow.holds Tryz.pinned (OpenSpec.ofChange wholeSerialSpec)

/-- ITS FALSE NEIGHBOUR: 'it returns false'. Refute it at one input. -/
def wholeSerialWrong : ChangeSpec := { name := "wholeSerial", fn := fun _ => fun
  | [d] => { results := [.lit (.bool false)], args := [d] }
  | _ => none }
def WholeSerialWrongFalsely : Prop := wholeSerialRow.holds Tryz.pinned (OpenSpec.ofChange wholeSerialWrong)

/-- 'burgagetop.WholeCatalogue': WHATEVER THE INPUT: true; the input reads as it did. -/
def wholeCatalogueSpec : ChangeSpec := { name := "wholeCatalogue", fn := fun _ => fun
  | [d] => { results := [.lit (.bool true)], args := [d] }
  | _ => none }
def wholeCatalogueRow : OpenClaim := { program := "ytadihdkpoeibhaagreatdoor", sum := "7d76ef3fef561c484274d94743537044dfcae75fd0f558b147e81c664cf37b39", func := "burgage/burgagetop.WholeCatalogue", spec := "wholeCatalogue", inPlace := ["internal/abi.NoEscape", "internal/bytealg.MakeNoZero"], unfollowed := true, recurses := true, named := ["burgage/level.kinds", "math/bits.deBruijn64tab"], plainKeys := false, apart := false, laid := [("math/bits.deBruijn64tab", laid_math_bits_deBruijn64tab), ("burgage/level.kinds", laid_burgage_level_kinds)] }
def WholeCatalogueSaid : Prop := wholeCatalogueRow.holds Tryz.pinned (OpenSpec.ofChange wholeCatalogueSpec)

/-- ITS FALSE NEIGHBOUR: 'it returns false'. Refute it at one input. -/
def wholeCatalogueWrong : ChangeSpec := { name := "wholeCatalogue", fn := fun _ => fun
  | [d] => { results := [.lit (.bool false)], args := [d] }
  | _ => none }
def WholeCatalogueWrongFalsely : Prop := wholeCatalogueRow.holds Tryz.pinned (OpenSpec.ofChange wholeCatalogueWrong)

/-- 'burgagetop.WholeNames': WHATEVER THE INPUT: true; the input reads as it did. -/
def wholeNamesSpec : ChangeSpec := { name := "wholeNames", fn := fun _ => fun
  | [d1, d2] => { results := [.lit (.bool true)], args := [d1, d2] }
  | _ => none }
def wholeNamesRow : OpenClaim := { program := "ytadihdkpoeibhaagreatdoor", sum := "7d76ef3fef561c484274d94743537044dfcae75fd0f558b147e81c664cf37b39", func := "burgage/burgagetop.WholeNames", spec := "wholeNames", inPlace := ["maps.clone"], unfollowed := true, recurses := true, named := ["burgage/level.kinds", "math/bits.deBruijn64tab"], plainKeys := false, apart := false, laid := [("math/bits.deBruijn64tab", laid_math_bits_deBruijn64tab), ("burgage/level.kinds", laid_burgage_level_kinds)] }
def WholeNamesSaid : Prop := wholeNamesRow.holds Tryz.pinned (OpenSpec.ofChange wholeNamesSpec)

/-- ITS FALSE NEIGHBOUR: 'it returns false'. Refute it at one input. -/
def wholeNamesWrong : ChangeSpec := { name := "wholeNames", fn := fun _ => fun
  | [d1, d2] => { results := [.lit (.bool false)], args := [d1, d2] }
  | _ => none }
def WholeNamesWrongFalsely : Prop := wholeNamesRow.holds Tryz.pinned (OpenSpec.ofChange wholeNamesWrong)

/-- 'burgagetop.WholeSessions': WHATEVER THE INPUT: true; the input reads as it did. -/
def wholeSessionsSpec : ChangeSpec := { name := "wholeSessions", fn := fun _ => fun
  | [d1, d2] => { results := [.lit (.bool true)], args := [d1, d2] }
  | _ => none }
def wholeSessionsRow : OpenClaim := { program := "ytadihdkpoeibhaagreatdoor", sum := "7d76ef3fef561c484274d94743537044dfcae75fd0f558b147e81c664cf37b39", func := "burgage/burgagetop.WholeSessions", spec := "wholeSessions", unfollowed := true, recurses := true, named := ["burgage/level.kinds", "math/bits.deBruijn64tab"], plainKeys := false, apart := false, laid := [("math/bits.deBruijn64tab", laid_math_bits_deBruijn64tab), ("burgage/level.kinds", laid_burgage_level_kinds)] }
def WholeSessionsSaid : Prop := wholeSessionsRow.holds Tryz.pinned (OpenSpec.ofChange wholeSessionsSpec)

/-- ITS FALSE NEIGHBOUR: 'it returns false'. Refute it at one input. -/
def wholeSessionsWrong : ChangeSpec := { name := "wholeSessions", fn := fun _ => fun
  | [d1, d2] => { results := [.lit (.bool false)], args := [d1, d2] }
  | _ => none }
def WholeSessionsWrongFalsely : Prop := wholeSessionsRow.holds Tryz.pinned (OpenSpec.ofChange wholeSessionsWrong)

/- THE SECOND FORM. 'bulk': how many values and letters a reading holds, each counted each time it is reached (what is shared counts as often as it is met; a slice's spare places count too). A statement '..UptoSaid' is the law's where the arguments, and the package variables that the reading takes, are together of bulk at most 1048576: NARROWER than '..Said'. Prove '..Said' where nothing that the law and all that it calls make is longer than what came in: it says more and counts as full. Else prove '..UptoSaid'. A law counts once. -/
mutual
def uptoBulk {H : Type} : DataW H → Nat
  | .lit (.string bytes) => bytes.length + 1
  | .lit _ => 1
  | .nil => 1
  | .ptr d => uptoBulk d + 1
  | .slice elems spare => uptoBulkAll elems + uptoBulkAll spare + 1
  | .agg parts => uptoBulkAll parts + 1
  | .iface _ d => uptoBulk d + 1
  | .map entries => uptoBulkEntries entries + 1
  | .held _ => 1
def uptoBulkAll {H : Type} : List (DataW H) → Nat
  | [] => 0
  | d :: r => uptoBulk d + uptoBulkAll r
def uptoBulkEntries {H : Type} : List (Lit × DataW H) → Nat
  | [] => 0
  | x :: r => uptoBulkEntry x + uptoBulkEntries r
def uptoBulkEntry {H : Type} : Lit × DataW H → Nat
  | (.string bytes, d) => bytes.length + uptoBulk d + 1
  | (_, d) => uptoBulk d + 1
 end
def uptoSmall : (H : Type) → List (DataW H) → Bool := fun _ ds => decide (uptoBulkAll ds ≤ 1048576)
def OpenSpec.upto (s : _root_.Go.ChangeSpec) : _root_.Go.OpenSpec := { _root_.Go.OpenSpec.ofChange s with cond := some uptoSmall }

/-- 'burgagelaw19.LatticeOf', WHERE WHAT IT READS IS OF BULK AT MOST 1048576: true; the input reads as it did. -/
def latticeOfUptoRow : OpenClaim := { program := "ytadihdkpoeibhaagreatdoor", sum := "7d76ef3fef561c484274d94743537044dfcae75fd0f558b147e81c664cf37b39", func := "burgage/burgagelaw19.LatticeOf", spec := "latticeOf", inPlace := ["internal/abi.NoEscape", "internal/bytealg.MakeNoZero"], unfollowed := true, recurses := true, named := ["burgage/level.kinds", "math/bits.deBruijn64tab"], plainKeys := false, apart := false, laid := [("math/bits.deBruijn64tab", laid_math_bits_deBruijn64tab), ("burgage/level.kinds", laid_burgage_level_kinds)], narrowed := true }
def LatticeOfUptoSaid : Prop := latticeOfUptoRow.holds Tryz.pinned (OpenSpec.upto latticeOfSpec)

/-- 'burgagelaw20.CatalogueEntries', WHERE WHAT IT READS IS OF BULK AT MOST 1048576: true; the input reads as it did. -/
def catalogueEntriesUptoRow : OpenClaim := { program := "ytadihdkpoeibhaagreatdoor", sum := "7d76ef3fef561c484274d94743537044dfcae75fd0f558b147e81c664cf37b39", func := "burgage/burgagelaw20.CatalogueEntries", spec := "catalogueEntries", unfollowed := true, recurses := true, named := ["burgage/level.kinds", "math/bits.deBruijn64tab"], plainKeys := false, apart := false, laid := [("math/bits.deBruijn64tab", laid_math_bits_deBruijn64tab), ("burgage/level.kinds", laid_burgage_level_kinds)], narrowed := true }
def CatalogueEntriesUptoSaid : Prop := catalogueEntriesUptoRow.holds Tryz.pinned (OpenSpec.upto catalogueEntriesSpec)

/-- 'burgagelaw21.RenameKeeps', WHERE WHAT IT READS IS OF BULK AT MOST 1048576: true; the input reads as it did. -/
def renameKeepsUptoRow : OpenClaim := { program := "ytadihdkpoeibhaagreatdoor", sum := "7d76ef3fef561c484274d94743537044dfcae75fd0f558b147e81c664cf37b39", func := "burgage/burgagelaw21.RenameKeeps", spec := "renameKeeps", inPlace := ["maps.clone"], unfollowed := true, recurses := true, named := ["burgage/level.kinds", "math/bits.deBruijn64tab"], plainKeys := false, apart := false, laid := [("math/bits.deBruijn64tab", laid_math_bits_deBruijn64tab), ("burgage/level.kinds", laid_burgage_level_kinds)], narrowed := true }
def RenameKeepsUptoSaid : Prop := renameKeepsUptoRow.holds Tryz.pinned (OpenSpec.upto renameKeepsSpec)

/-- 'burgagelaw22.CanonKeeps', WHERE WHAT IT READS IS OF BULK AT MOST 1048576: true; the input reads as it did. -/
def canonKeepsUptoRow : OpenClaim := { program := "ytadihdkpoeibhaagreatdoor", sum := "7d76ef3fef561c484274d94743537044dfcae75fd0f558b147e81c664cf37b39", func := "burgage/burgagelaw22.CanonKeeps", spec := "canonKeeps", unfollowed := true, recurses := true, named := ["burgage/level.kinds", "math/bits.deBruijn64tab"], plainKeys := false, apart := false, laid := [("math/bits.deBruijn64tab", laid_math_bits_deBruijn64tab), ("burgage/level.kinds", laid_burgage_level_kinds)], narrowed := true }
def CanonKeepsUptoSaid : Prop := canonKeepsUptoRow.holds Tryz.pinned (OpenSpec.upto canonKeepsSpec)

/-- 'burgagetop.WholeSerial', WHERE WHAT IT READS IS OF BULK AT MOST 1048576: true; the input reads as it did. -/
def wholeSerialUptoRow : OpenClaim := { program := "ytadihdkpoeibhaagreatdoor", sum := "7d76ef3fef561c484274d94743537044dfcae75fd0f558b147e81c664cf37b39", func := "burgage/burgagetop.WholeSerial", spec := "wholeSerial", unfollowed := true, recurses := true, named := ["burgage/level.kinds", "math/bits.deBruijn64tab"], plainKeys := false, apart := false, laid := [("math/bits.deBruijn64tab", laid_math_bits_deBruijn64tab), ("burgage/level.kinds", laid_burgage_level_kinds)], narrowed := true }
def WholeSerialUptoSaid : Prop := wholeSerialUptoRow.holds Tryz.pinned (OpenSpec.upto wholeSerialSpec)

/-- 'burgagetop.WholeCatalogue', WHERE WHAT IT READS IS OF BULK AT MOST 1048576: true; the input reads as it did. -/
def wholeCatalogueUptoRow : OpenClaim := { program := "ytadihdkpoeibhaagreatdoor", sum := "7d76ef3fef561c484274d94743537044dfcae75fd0f558b147e81c664cf37b39", func := "burgage/burgagetop.WholeCatalogue", spec := "wholeCatalogue", inPlace := ["internal/abi.NoEscape", "internal/bytealg.MakeNoZero"], unfollowed := true, recurses := true, named := ["burgage/level.kinds", "math/bits.deBruijn64tab"], plainKeys := false, apart := false, laid := [("math/bits.deBruijn64tab", laid_math_bits_deBruijn64tab), ("burgage/level.kinds", laid_burgage_level_kinds)], narrowed := true }
def WholeCatalogueUptoSaid : Prop := wholeCatalogueUptoRow.holds Tryz.pinned (OpenSpec.upto wholeCatalogueSpec)

/-- 'burgagetop.WholeNames', WHERE WHAT IT READS IS OF BULK AT MOST 1048576: true; the input reads as it did. -/
def wholeNamesUptoRow : OpenClaim := { program := "ytadihdkpoeibhaagreatdoor", sum := "7d76ef3fef561c484274d94743537044dfcae75fd0f558b147e81c664cf37b39", func := "burgage/burgagetop.WholeNames", spec := "wholeNames", inPlace := ["maps.clone"], unfollowed := true, recurses := true, named := ["burgage/level.kinds", "math/bits.deBruijn64tab"], plainKeys := false, apart := false, laid := [("math/bits.deBruijn64tab", laid_math_bits_deBruijn64tab), ("burgage/level.kinds", laid_burgage_level_kinds)], narrowed := true }
def WholeNamesUptoSaid : Prop := wholeNamesUptoRow.holds Tryz.pinned (OpenSpec.upto wholeNamesSpec)

/-- 'burgagetop.WholeSessions', WHERE WHAT IT READS IS OF BULK AT MOST 1048576: true; the input reads as it did. -/
def wholeSessionsUptoRow : OpenClaim := { program := "ytadihdkpoeibhaagreatdoor", sum := "7d76ef3fef561c484274d94743537044dfcae75fd0f558b147e81c664cf37b39", func := "burgage/burgagetop.WholeSessions", spec := "wholeSessions", unfollowed := true, recurses := true, named := ["burgage/level.kinds", "math/bits.deBruijn64tab"], plainKeys := false, apart := false, laid := [("math/bits.deBruijn64tab", laid_math_bits_deBruijn64tab), ("burgage/level.kinds", laid_burgage_level_kinds)], narrowed := true }
def WholeSessionsUptoSaid : Prop := wholeSessionsUptoRow.holds Tryz.pinned (OpenSpec.upto wholeSessionsSpec)

end Rows
end Go.Proofs.YtadihdkpoeibhaaGreatDoor
