/-
  NARROWER THAN 'FOR EVERY INPUT', by the rows' own cells (each row's printed sentence says how): RenameKeeps: laid · CheckKinds: laid · CheckFuel: laid · CheckEnough: laid · CheckPlaces: laid · WholeNames: laid · WholeEnough: laid.
  DERIVED. THE GIVEN ROWS OF THIS SEAT. 7 by the template 'for every input the law returns true; each argument reads behind the call as it read before'; 0 by the template 'total and deterministic' (their statements: YtnhkjehfmbfmmaaGreatDoorTotals.lean).
  GIVEN WITH THE SEED: the statements are not yours to turn. If you find one false, say at which input.
  Laid BY PROGRAM, IN A SANDBOX (cutbox-rows.mjs): the forced cells as the released guide's own fill.sh prints them over the translation 497b8468f4a601f4… (all of the seat's roots in one cut). By AI agents, Wed Nov 11 2026. No macro, syntax, notation, axiom, sorry.
-/
import Derived.Test.YtnhkjehfmbfmmaaGreatDoorChecked
import GoSem.PinnedTables
import GoSem.Claim
import GoSem.ClaimJoined
import GoSem.ClaimMapViews
import Derived.JoinedTies
import Derived.KernelRfl
namespace Go.Proofs.YtnhkjehfmbfmmaaGreatDoor
/- THE CELL 'sum', in the pinned program and in every row, IS THE sha256 OF THE DUMP (.gsa) THAT YtnhkjehfmbfmmaaGreatDoorProg.lean LOADS. Nothing in Lean hashes anything: it is a label: what it is worth is what the hold of that sum in a sandbox is worth. -/
noncomputable def Tryz.pinned : Pinned := { name := "ytnhkjehfmbfmmaagreatdoor", sum := "497b8468f4a601f4d5038eb20725854e112b4510da3d55fb51ff32923e37639d", checked := Tryz.checked }
namespace Rows
def none {H : Type} : Left H := { results := [], args := [] }

/- WHAT THE LISTED PACKAGE-LEVEL VARIABLES READ AS WHEN THE CALL BEGINS. Each datum BY PROGRAM (the guide's laid-datum.mjs) off the statement by which the dump's own 'gosem.cut.vars' lays the variable. In a bare row this is a premise. The card (YtnhkjehfmbfmmaaGreatDoorCards.lean) ties it to the program's text. -/
def laid_math_bits_deBruijn64tab {H : Type} : DataW H := .agg [.lit (.int .u8 0), .lit (.int .u8 1), .lit (.int .u8 56), .lit (.int .u8 2), .lit (.int .u8 57), .lit (.int .u8 49), .lit (.int .u8 28), .lit (.int .u8 3), .lit (.int .u8 61), .lit (.int .u8 58), .lit (.int .u8 42), .lit (.int .u8 50), .lit (.int .u8 38), .lit (.int .u8 29), .lit (.int .u8 17), .lit (.int .u8 4), .lit (.int .u8 62), .lit (.int .u8 47), .lit (.int .u8 59), .lit (.int .u8 36), .lit (.int .u8 45), .lit (.int .u8 43), .lit (.int .u8 51), .lit (.int .u8 22), .lit (.int .u8 53), .lit (.int .u8 39), .lit (.int .u8 33), .lit (.int .u8 30), .lit (.int .u8 24), .lit (.int .u8 18), .lit (.int .u8 12), .lit (.int .u8 5), .lit (.int .u8 63), .lit (.int .u8 55), .lit (.int .u8 48), .lit (.int .u8 27), .lit (.int .u8 60), .lit (.int .u8 41), .lit (.int .u8 37), .lit (.int .u8 16), .lit (.int .u8 46), .lit (.int .u8 35), .lit (.int .u8 44), .lit (.int .u8 21), .lit (.int .u8 52), .lit (.int .u8 32), .lit (.int .u8 23), .lit (.int .u8 11), .lit (.int .u8 54), .lit (.int .u8 26), .lit (.int .u8 40), .lit (.int .u8 15), .lit (.int .u8 34), .lit (.int .u8 20), .lit (.int .u8 31), .lit (.int .u8 10), .lit (.int .u8 25), .lit (.int .u8 14), .lit (.int .u8 19), .lit (.int .u8 9), .lit (.int .u8 13), .lit (.int .u8 8), .lit (.int .u8 7), .lit (.int .u8 6)]
def laid_burgage_level_kinds {H : Type} : DataW H := .agg [.agg [.lit (.string [114, 101, 97, 100, 45, 97, 116, 111, 109, 105, 99]), .lit (.int .i64 0)], .agg [.lit (.string [115, 101, 115, 115, 105, 111, 110, 45, 97, 116, 111, 109, 105, 99]), .lit (.int .i64 1)], .agg [.lit (.string [99, 97, 117, 115, 97, 108]), .lit (.int .i64 3)], .agg [.lit (.string [117, 112, 100, 97, 116, 101]), .lit (.int .i64 9)], .agg [.lit (.string [112, 114, 101, 102, 105, 120]), .lit (.int .i64 5)], .agg [.lit (.string [112, 97, 114, 97, 108, 108, 101, 108]), .lit (.int .i64 11)], .agg [.lit (.string [115, 110, 97, 112, 115, 104, 111, 116]), .lit (.int .i64 13)], .agg [.lit (.string [115, 101, 114, 105, 97, 108]), .lit (.int .i64 17)], .agg [.lit (.string [116, 105, 109, 101, 45, 99, 97, 117, 115, 97, 108]), .lit (.int .i64 34)], .agg [.lit (.string [116, 105, 109, 101, 45, 112, 114, 101, 102, 105, 120]), .lit (.int .i64 36)], .agg [.lit (.string [116, 105, 109, 101, 45, 115, 110, 97, 112, 115, 104, 111, 116]), .lit (.int .i64 44)], .agg [.lit (.string [115, 116, 114, 105, 99, 116]), .lit (.int .i64 48)]]
def laid_unicode_utf8_acceptRanges {H : Type} : DataW H := .agg [.agg [.lit (.int .u8 128), .lit (.int .u8 191)], .agg [.lit (.int .u8 160), .lit (.int .u8 191)], .agg [.lit (.int .u8 128), .lit (.int .u8 159)], .agg [.lit (.int .u8 144), .lit (.int .u8 191)], .agg [.lit (.int .u8 128), .lit (.int .u8 143)], .agg [.lit (.int .u8 0), .lit (.int .u8 0)], .agg [.lit (.int .u8 0), .lit (.int .u8 0)], .agg [.lit (.int .u8 0), .lit (.int .u8 0)], .agg [.lit (.int .u8 0), .lit (.int .u8 0)], .agg [.lit (.int .u8 0), .lit (.int .u8 0)], .agg [.lit (.int .u8 0), .lit (.int .u8 0)], .agg [.lit (.int .u8 0), .lit (.int .u8 0)], .agg [.lit (.int .u8 0), .lit (.int .u8 0)], .agg [.lit (.int .u8 0), .lit (.int .u8 0)], .agg [.lit (.int .u8 0), .lit (.int .u8 0)], .agg [.lit (.int .u8 0), .lit (.int .u8 0)]]
/-- One of Go's own tables, pinned by name: the form's constant. -/
def laid_unicode_utf8_first : DataW Unit := Go.Pinned.utf8First
def laid_math_bits_deBruijn32tab {H : Type} : DataW H := .agg [.lit (.int .u8 0), .lit (.int .u8 1), .lit (.int .u8 28), .lit (.int .u8 2), .lit (.int .u8 29), .lit (.int .u8 14), .lit (.int .u8 24), .lit (.int .u8 3), .lit (.int .u8 30), .lit (.int .u8 22), .lit (.int .u8 20), .lit (.int .u8 15), .lit (.int .u8 25), .lit (.int .u8 17), .lit (.int .u8 4), .lit (.int .u8 8), .lit (.int .u8 31), .lit (.int .u8 27), .lit (.int .u8 13), .lit (.int .u8 23), .lit (.int .u8 21), .lit (.int .u8 19), .lit (.int .u8 16), .lit (.int .u8 7), .lit (.int .u8 26), .lit (.int .u8 12), .lit (.int .u8 18), .lit (.int .u8 6), .lit (.int .u8 11), .lit (.int .u8 5), .lit (.int .u8 10), .lit (.int .u8 9)]
def laid_internal_strconv_uint64pow10 {H : Type} : DataW H := .agg [.lit (.int .u64 1), .lit (.int .u64 10), .lit (.int .u64 100), .lit (.int .u64 1000), .lit (.int .u64 10000), .lit (.int .u64 100000), .lit (.int .u64 1000000), .lit (.int .u64 10000000), .lit (.int .u64 100000000), .lit (.int .u64 1000000000), .lit (.int .u64 10000000000), .lit (.int .u64 100000000000), .lit (.int .u64 1000000000000), .lit (.int .u64 10000000000000), .lit (.int .u64 100000000000000), .lit (.int .u64 1000000000000000), .lit (.int .u64 10000000000000000), .lit (.int .u64 100000000000000000), .lit (.int .u64 1000000000000000000), .lit (.int .u64 10000000000000000000)]

/-- 'burgagelaw21.RenameKeeps': WHATEVER THE INPUT: true; the input reads as it did. -/
def renameKeepsSpec : ChangeSpec := { name := "renameKeeps", fn := fun _ => fun
  | [d1, d2] => { results := [.lit (.bool true)], args := [d1, d2] }
  | _ => none }
def renameKeepsRow : OpenClaim := { program := "ytnhkjehfmbfmmaagreatdoor", sum := "497b8468f4a601f4d5038eb20725854e112b4510da3d55fb51ff32923e37639d", func := "burgage/burgagelaw21.RenameKeeps", spec := "renameKeeps", inPlace := ["maps.clone"], unfollowed := true, recurses := true, named := ["burgage/level.kinds", "math/bits.deBruijn64tab"], plainKeys := false, apart := false, laid := [("math/bits.deBruijn64tab", laid_math_bits_deBruijn64tab), ("burgage/level.kinds", laid_burgage_level_kinds)] }
def RenameKeepsSaid : Prop := renameKeepsRow.holds Tryz.pinned (OpenSpec.ofChange renameKeepsSpec)

/-- ITS FALSE NEIGHBOUR: 'it returns false'. Refute it at one input. -/
def renameKeepsWrong : ChangeSpec := { name := "renameKeeps", fn := fun _ => fun
  | [d1, d2] => { results := [.lit (.bool false)], args := [d1, d2] }
  | _ => none }
def RenameKeepsWrongFalsely : Prop := renameKeepsRow.holds Tryz.pinned (OpenSpec.ofChange renameKeepsWrong)

/-- 'burgagelaw25.CheckKinds': WHATEVER THE INPUT: true; the input reads as it did. -/
def checkKindsSpec : ChangeSpec := { name := "checkKinds", fn := fun _ => fun
  | [d1, d2] => { results := [.lit (.bool true)], args := [d1, d2] }
  | _ => none }
def checkKindsRow : OpenClaim := { program := "ytnhkjehfmbfmmaagreatdoor", sum := "497b8468f4a601f4d5038eb20725854e112b4510da3d55fb51ff32923e37639d", func := "burgage/burgagelaw25.CheckKinds", spec := "checkKinds", inPlace := ["internal/bytealg.CountString", "internal/bytealg.IndexByteString", "internal/bytealg.IndexString"], unfollowed := true, recurses := true, named := ["unicode/utf8.first", "unicode/utf8.acceptRanges", "internal/bytealg.MaxLen", "burgage/level.kinds", "math/bits.deBruijn64tab"], plainKeys := false, apart := false, laid := [("math/bits.deBruijn64tab", laid_math_bits_deBruijn64tab), ("unicode/utf8.acceptRanges", laid_unicode_utf8_acceptRanges), ("burgage/level.kinds", laid_burgage_level_kinds), ("unicode/utf8.first", laid_unicode_utf8_first)] }
def CheckKindsSaid : Prop := checkKindsRow.holds Tryz.pinned (OpenSpec.ofChange checkKindsSpec)

/-- ITS FALSE NEIGHBOUR: 'it returns false'. Refute it at one input. -/
def checkKindsWrong : ChangeSpec := { name := "checkKinds", fn := fun _ => fun
  | [d1, d2] => { results := [.lit (.bool false)], args := [d1, d2] }
  | _ => none }
def CheckKindsWrongFalsely : Prop := checkKindsRow.holds Tryz.pinned (OpenSpec.ofChange checkKindsWrong)

/-- 'burgagelaw25.CheckFuel': WHATEVER THE INPUT: true; the input reads as it did. -/
def checkFuelSpec : ChangeSpec := { name := "checkFuel", fn := fun _ => fun
  | [d1, d2, d3] => { results := [.lit (.bool true)], args := [d1, d2, d3] }
  | _ => none }
def checkFuelRow : OpenClaim := { program := "ytnhkjehfmbfmmaagreatdoor", sum := "497b8468f4a601f4d5038eb20725854e112b4510da3d55fb51ff32923e37639d", func := "burgage/burgagelaw25.CheckFuel", spec := "checkFuel", inPlace := ["internal/bytealg.CountString", "internal/bytealg.IndexByteString", "internal/bytealg.IndexString", "internal/abi.NoEscape"], unfollowed := true, recurses := true, named := ["unicode/utf8.first", "unicode/utf8.acceptRanges", "internal/bytealg.MaxLen", "burgage/level.kinds", "math/bits.deBruijn64tab", "internal/strconv.uint64pow10", "math/bits.deBruijn32tab"], plainKeys := false, apart := false, laid := [("math/bits.deBruijn32tab", laid_math_bits_deBruijn32tab), ("math/bits.deBruijn64tab", laid_math_bits_deBruijn64tab), ("internal/strconv.uint64pow10", laid_internal_strconv_uint64pow10), ("unicode/utf8.acceptRanges", laid_unicode_utf8_acceptRanges), ("burgage/level.kinds", laid_burgage_level_kinds), ("unicode/utf8.first", laid_unicode_utf8_first)] }
def CheckFuelSaid : Prop := checkFuelRow.holds Tryz.pinned (OpenSpec.ofChange checkFuelSpec)

/-- ITS FALSE NEIGHBOUR: 'it returns false'. Refute it at one input. -/
def checkFuelWrong : ChangeSpec := { name := "checkFuel", fn := fun _ => fun
  | [d1, d2, d3] => { results := [.lit (.bool false)], args := [d1, d2, d3] }
  | _ => none }
def CheckFuelWrongFalsely : Prop := checkFuelRow.holds Tryz.pinned (OpenSpec.ofChange checkFuelWrong)

/-- 'burgagelaw25.CheckEnough': WHATEVER THE INPUT: true; the input reads as it did. -/
def checkEnoughSpec : ChangeSpec := { name := "checkEnough", fn := fun _ => fun
  | [d1, d2] => { results := [.lit (.bool true)], args := [d1, d2] }
  | _ => none }
def checkEnoughRow : OpenClaim := { program := "ytnhkjehfmbfmmaagreatdoor", sum := "497b8468f4a601f4d5038eb20725854e112b4510da3d55fb51ff32923e37639d", func := "burgage/burgagelaw25.CheckEnough", spec := "checkEnough", inPlace := ["internal/bytealg.CountString", "internal/bytealg.IndexByteString", "internal/bytealg.IndexString"], unfollowed := true, recurses := true, named := ["unicode/utf8.first", "unicode/utf8.acceptRanges", "internal/bytealg.MaxLen", "burgage/level.kinds", "math/bits.deBruijn64tab"], plainKeys := false, apart := false, laid := [("math/bits.deBruijn64tab", laid_math_bits_deBruijn64tab), ("unicode/utf8.acceptRanges", laid_unicode_utf8_acceptRanges), ("burgage/level.kinds", laid_burgage_level_kinds), ("unicode/utf8.first", laid_unicode_utf8_first)] }
def CheckEnoughSaid : Prop := checkEnoughRow.holds Tryz.pinned (OpenSpec.ofChange checkEnoughSpec)

/-- ITS FALSE NEIGHBOUR: 'it returns false'. Refute it at one input. -/
def checkEnoughWrong : ChangeSpec := { name := "checkEnough", fn := fun _ => fun
  | [d1, d2] => { results := [.lit (.bool false)], args := [d1, d2] }
  | _ => none }
def CheckEnoughWrongFalsely : Prop := checkEnoughRow.holds Tryz.pinned (OpenSpec.ofChange checkEnoughWrong)

/-- 'burgagelaw25.CheckPlaces': WHATEVER THE INPUT: true; the input reads as it did. -/
def checkPlacesSpec : ChangeSpec := { name := "checkPlaces", fn := fun _ => fun
  | [d] => { results := [.lit (.bool true)], args := [d] }
  | _ => none }
def checkPlacesRow : OpenClaim := { program := "ytnhkjehfmbfmmaagreatdoor", sum := "497b8468f4a601f4d5038eb20725854e112b4510da3d55fb51ff32923e37639d", func := "burgage/burgagelaw25.CheckPlaces", spec := "checkPlaces", inPlace := ["internal/bytealg.CountString", "internal/bytealg.IndexByteString", "internal/bytealg.IndexString", "internal/abi.NoEscape", "internal/bytealg.MakeNoZero"], unfollowed := true, recurses := true, named := ["unicode/utf8.first", "unicode/utf8.acceptRanges", "internal/bytealg.MaxLen", "burgage/level.kinds", "math/bits.deBruijn64tab", "internal/strconv.uint64pow10", "math/bits.deBruijn32tab"], plainKeys := false, apart := false, laid := [("math/bits.deBruijn32tab", laid_math_bits_deBruijn32tab), ("math/bits.deBruijn64tab", laid_math_bits_deBruijn64tab), ("internal/strconv.uint64pow10", laid_internal_strconv_uint64pow10), ("unicode/utf8.acceptRanges", laid_unicode_utf8_acceptRanges), ("burgage/level.kinds", laid_burgage_level_kinds), ("unicode/utf8.first", laid_unicode_utf8_first)] }
def CheckPlacesSaid : Prop := checkPlacesRow.holds Tryz.pinned (OpenSpec.ofChange checkPlacesSpec)

/-- ITS FALSE NEIGHBOUR: 'it returns false'. Refute it at one input. -/
def checkPlacesWrong : ChangeSpec := { name := "checkPlaces", fn := fun _ => fun
  | [d] => { results := [.lit (.bool false)], args := [d] }
  | _ => none }
def CheckPlacesWrongFalsely : Prop := checkPlacesRow.holds Tryz.pinned (OpenSpec.ofChange checkPlacesWrong)

/-- 'burgagetop.WholeNames': WHATEVER THE INPUT: true; the input reads as it did. -/
def wholeNamesSpec : ChangeSpec := { name := "wholeNames", fn := fun _ => fun
  | [d1, d2] => { results := [.lit (.bool true)], args := [d1, d2] }
  | _ => none }
def wholeNamesRow : OpenClaim := { program := "ytnhkjehfmbfmmaagreatdoor", sum := "497b8468f4a601f4d5038eb20725854e112b4510da3d55fb51ff32923e37639d", func := "burgage/burgagetop.WholeNames", spec := "wholeNames", inPlace := ["maps.clone"], unfollowed := true, recurses := true, named := ["burgage/level.kinds", "math/bits.deBruijn64tab"], plainKeys := false, apart := false, laid := [("math/bits.deBruijn64tab", laid_math_bits_deBruijn64tab), ("burgage/level.kinds", laid_burgage_level_kinds)] }
def WholeNamesSaid : Prop := wholeNamesRow.holds Tryz.pinned (OpenSpec.ofChange wholeNamesSpec)

/-- ITS FALSE NEIGHBOUR: 'it returns false'. Refute it at one input. -/
def wholeNamesWrong : ChangeSpec := { name := "wholeNames", fn := fun _ => fun
  | [d1, d2] => { results := [.lit (.bool false)], args := [d1, d2] }
  | _ => none }
def WholeNamesWrongFalsely : Prop := wholeNamesRow.holds Tryz.pinned (OpenSpec.ofChange wholeNamesWrong)

/-- 'burgagetop.WholeEnough': WHATEVER THE INPUT: true; the input reads as it did. -/
def wholeEnoughSpec : ChangeSpec := { name := "wholeEnough", fn := fun _ => fun
  | [d] => { results := [.lit (.bool true)], args := [d] }
  | _ => none }
def wholeEnoughRow : OpenClaim := { program := "ytnhkjehfmbfmmaagreatdoor", sum := "497b8468f4a601f4d5038eb20725854e112b4510da3d55fb51ff32923e37639d", func := "burgage/burgagetop.WholeEnough", spec := "wholeEnough", inPlace := ["internal/abi.NoEscape", "internal/bytealg.CountString", "internal/bytealg.IndexByteString", "internal/bytealg.IndexString"], unfollowed := true, recurses := true, named := ["internal/strconv.uint64pow10", "math/bits.deBruijn32tab", "math/bits.deBruijn64tab", "unicode/utf8.first", "unicode/utf8.acceptRanges", "internal/bytealg.MaxLen", "burgage/level.kinds"], plainKeys := false, apart := false, laid := [("math/bits.deBruijn32tab", laid_math_bits_deBruijn32tab), ("math/bits.deBruijn64tab", laid_math_bits_deBruijn64tab), ("internal/strconv.uint64pow10", laid_internal_strconv_uint64pow10), ("unicode/utf8.acceptRanges", laid_unicode_utf8_acceptRanges), ("burgage/level.kinds", laid_burgage_level_kinds), ("unicode/utf8.first", laid_unicode_utf8_first)] }
def WholeEnoughSaid : Prop := wholeEnoughRow.holds Tryz.pinned (OpenSpec.ofChange wholeEnoughSpec)

/-- ITS FALSE NEIGHBOUR: 'it returns false'. Refute it at one input. -/
def wholeEnoughWrong : ChangeSpec := { name := "wholeEnough", fn := fun _ => fun
  | [d] => { results := [.lit (.bool false)], args := [d] }
  | _ => none }
def WholeEnoughWrongFalsely : Prop := wholeEnoughRow.holds Tryz.pinned (OpenSpec.ofChange wholeEnoughWrong)

/- THE SECOND FORM. 'bulk': how many values and letters a reading holds, each counted each time it is reached (what is shared counts as often as it is met; a slice's spare places count too). A statement '..UptoSaid' is the law's where the arguments, and the package variables that the reading takes, are together of bulk at most 1048576: NARROWER than '..Said'. Prove '..Said' where nothing that the law and all that it calls make is longer than what came in: it says more and counts as full. Else prove '..UptoSaid'. A law counts once. -/
mutual
def uptoBulk {H : Type} : DataW H → Nat
  | .lit (.string bytes) => bytes.length + 1
  | .lit _ => 1
  | .nil => 1
  | .ptr d => uptoBulk d + 1
  | .slice elems spare => uptoBulkAll elems + uptoBulkAll spare + 1
  | .agg parts => uptoBulkAll parts + 1
  | .iface _ d => uptoBulk d + 1
  | .map entries => uptoBulkEntries entries + 1
  | .held _ => 1
def uptoBulkAll {H : Type} : List (DataW H) → Nat
  | [] => 0
  | d :: r => uptoBulk d + uptoBulkAll r
def uptoBulkEntries {H : Type} : List (Lit × DataW H) → Nat
  | [] => 0
  | x :: r => uptoBulkEntry x + uptoBulkEntries r
def uptoBulkEntry {H : Type} : Lit × DataW H → Nat
  | (.string bytes, d) => bytes.length + uptoBulk d + 1
  | (_, d) => uptoBulk d + 1
 end
def uptoSmall : (H : Type) → List (DataW H) → Bool := fun _ ds => decide (uptoBulkAll ds ≤ 1048576)
def OpenSpec.upto (s : _root_.Go.ChangeSpec) : _root_.Go.OpenSpec := { _root_.Go.OpenSpec.ofChange s with cond := some uptoSmall }

/-- 'burgagelaw21.RenameKeeps', WHERE WHAT IT READS IS OF BULK AT MOST 1048576: true; the input reads as it did. -/
def renameKeepsUptoRow : OpenClaim := { program := "ytnhkjehfmbfmmaagreatdoor", sum := "497b8468f4a601f4d5038eb20725854e112b4510da3d55fb51ff32923e37639d", func := "burgage/burgagelaw21.RenameKeeps", spec := "renameKeeps", inPlace := ["maps.clone"], unfollowed := true, recurses := true, named := ["burgage/level.kinds", "math/bits.deBruijn64tab"], plainKeys := false, apart := false, laid := [("math/bits.deBruijn64tab", laid_math_bits_deBruijn64tab), ("burgage/level.kinds", laid_burgage_level_kinds)], narrowed := true }
def RenameKeepsUptoSaid : Prop := renameKeepsUptoRow.holds Tryz.pinned (OpenSpec.upto renameKeepsSpec)

/-- 'burgagelaw25.CheckKinds', WHERE WHAT IT READS IS OF BULK AT MOST 1048576: true; the input reads as it did. -/
def checkKindsUptoRow : OpenClaim := { program := "ytnhkjehfmbfmmaagreatdoor", sum := "497b8468f4a601f4d5038eb20725854e112b4510da3d55fb51ff32923e37639d", func := "burgage/burgagelaw25.CheckKinds", spec := "checkKinds", inPlace := ["internal/bytealg.CountString", "internal/bytealg.IndexByteString", "internal/bytealg.IndexString"], unfollowed := true, recurses := true, named := ["unicode/utf8.first", "unicode/utf8.acceptRanges", "internal/bytealg.MaxLen", "burgage/level.kinds", "math/bits.deBruijn64tab"], plainKeys := false, apart := false, laid := [("math/bits.deBruijn64tab", laid_math_bits_deBruijn64tab), ("unicode/utf8.acceptRanges", laid_unicode_utf8_acceptRanges), ("burgage/level.kinds", laid_burgage_level_kinds), ("unicode/utf8.first", laid_unicode_utf8_first)], narrowed := true }
def CheckKindsUptoSaid : Prop := checkKindsUptoRow.holds Tryz.pinned (OpenSpec.upto checkKindsSpec)

/-- 'burgagelaw25.CheckFuel', WHERE WHAT IT READS IS OF BULK AT MOST 1048576: true; the input reads as it did. -/
def checkFuelUptoRow : OpenClaim := { program := "ytnhkjehfmbfmmaagreatdoor", sum := "497b8468f4a601f4d5038eb20725854e112b4510da3d55fb51ff32923e37639d", func := "burgage/burgagelaw25.CheckFuel", spec := "checkFuel", inPlace := ["internal/bytealg.CountString", "internal/bytealg.IndexByteString", "internal/bytealg.IndexString", "internal/abi.NoEscape"], unfollowed := true, recurses := true, named := ["unicode/utf8.first", "unicode/utf8.acceptRanges", "internal/bytealg.MaxLen", "burgage/level.kinds", "math/bits.deBruijn64tab", "internal/strconv.uint64pow10", "math/bits.deBruijn32tab"], plainKeys := false, apart := false, laid := [("math/bits.deBruijn32tab", laid_math_bits_deBruijn32tab), ("math/bits.deBruijn64tab", laid_math_bits_deBruijn64tab), ("internal/strconv.uint64pow10", laid_internal_strconv_uint64pow10), ("unicode/utf8.acceptRanges", laid_unicode_utf8_acceptRanges), ("burgage/level.kinds", laid_burgage_level_kinds), ("unicode/utf8.first", laid_unicode_utf8_first)], narrowed := true }
def CheckFuelUptoSaid : Prop := checkFuelUptoRow.holds Tryz.pinned (OpenSpec.upto checkFuelSpec)

/-- 'burgagelaw25.CheckEnough', WHERE WHAT IT READS IS OF BULK AT MOST 1048576: true; the input reads as it did. -/
def checkEnoughUptoRow : OpenClaim := { program := "ytnhkjehfmbfmmaagreatdoor", sum := "497b8468f4a601f4d5038eb20725854e112b4510da3d55fb51ff32923e37639d", func := "burgage/burgagelaw25.CheckEnough", spec := "checkEnough", inPlace := ["internal/bytealg.CountString", "internal/bytealg.IndexByteString", "internal/bytealg.IndexString"], unfollowed := true, recurses := true, named := ["unicode/utf8.first", "unicode/utf8.acceptRanges", "internal/bytealg.MaxLen", "burgage/level.kinds", "math/bits.deBruijn64tab"], plainKeys := false, apart := false, laid := [("math/bits.deBruijn64tab", laid_math_bits_deBruijn64tab), ("unicode/utf8.acceptRanges", laid_unicode_utf8_acceptRanges), ("burgage/level.kinds", laid_burgage_level_kinds), ("unicode/utf8.first", laid_unicode_utf8_first)], narrowed := true }
def CheckEnoughUptoSaid : Prop := checkEnoughUptoRow.holds Tryz.pinned (OpenSpec.upto checkEnoughSpec)

/-- 'burgagelaw25.CheckPlaces', WHERE WHAT IT READS IS OF BULK AT MOST 1048576: true; the input reads as it did. -/
def checkPlacesUptoRow : OpenClaim := { program := "ytnhkjehfmbfmmaagreatdoor", sum := "497b8468f4a601f4d5038eb20725854e112b4510da3d55fb51ff32923e37639d", func := "burgage/burgagelaw25.CheckPlaces", spec := "checkPlaces", inPlace := ["internal/bytealg.CountString", "internal/bytealg.IndexByteString", "internal/bytealg.IndexString", "internal/abi.NoEscape", "internal/bytealg.MakeNoZero"], unfollowed := true, recurses := true, named := ["unicode/utf8.first", "unicode/utf8.acceptRanges", "internal/bytealg.MaxLen", "burgage/level.kinds", "math/bits.deBruijn64tab", "internal/strconv.uint64pow10", "math/bits.deBruijn32tab"], plainKeys := false, apart := false, laid := [("math/bits.deBruijn32tab", laid_math_bits_deBruijn32tab), ("math/bits.deBruijn64tab", laid_math_bits_deBruijn64tab), ("internal/strconv.uint64pow10", laid_internal_strconv_uint64pow10), ("unicode/utf8.acceptRanges", laid_unicode_utf8_acceptRanges), ("burgage/level.kinds", laid_burgage_level_kinds), ("unicode/utf8.first", laid_unicode_utf8_first)], narrowed := true }
def CheckPlacesUptoSaid : Prop := checkPlacesUptoRow.holds Tryz.pinned (OpenSpec.upto checkPlacesSpec)

/-- 'burgagetop.WholeNames', WHERE WHAT IT READS IS OF BULK AT MOST 1048576: true; the input reads as it did. -/
def wholeNamesUptoRow : OpenClaim := { program := "ytnhkjehfmbfmmaagreatdoor", sum := "497b8468f4a601f4d5038eb20725854e112b4510da3d55fb51ff32923e37639d", func := "burgage/burgagetop.WholeNames", spec := "wholeNames", inPlace := ["maps.clone"], unfollowed := true, recurses := true, named := ["burgage/level.kinds", "math/bits.deBruijn64tab"], plainKeys := false, apart := false, laid := [("math/bits.deBruijn64tab", laid_math_bits_deBruijn64tab), ("burgage/level.kinds", laid_burgage_level_kinds)], narrowed := true }
def WholeNamesUptoSaid : Prop := wholeNamesUptoRow.holds Tryz.pinned (OpenSpec.upto wholeNamesSpec)

/-- 'burgagetop.WholeEnough', WHERE WHAT IT READS IS OF BULK AT MOST 1048576: true; the input reads as it did. -/
def wholeEnoughUptoRow : OpenClaim := { program := "ytnhkjehfmbfmmaagreatdoor", sum := "497b8468f4a601f4d5038eb20725854e112b4510da3d55fb51ff32923e37639d", func := "burgage/burgagetop.WholeEnough", spec := "wholeEnough", inPlace := ["internal/abi.NoEscape", "internal/bytealg.CountString", "internal/bytealg.IndexByteString", "internal/bytealg.IndexString"], unfollowed := true, recurses := true, named := ["internal/strconv.uint64pow10", "math/bits.deBruijn32tab", "math/bits.deBruijn64tab", "unicode/utf8.first", "unicode/utf8.acceptRanges", "internal/bytealg.MaxLen", "burgage/level.kinds"], plainKeys := false, apart := false, laid := [("math/bits.deBruijn32tab", laid_math_bits_deBruijn32tab), ("math/bits.deBruijn64tab", laid_math_bits_deBruijn64tab), ("internal/strconv.uint64pow10", laid_internal_strconv_uint64pow10), ("unicode/utf8.acceptRanges", laid_unicode_utf8_acceptRanges), ("burgage/level.kinds", laid_burgage_level_kinds), ("unicode/utf8.first", laid_unicode_utf8_first)], narrowed := true }
def WholeEnoughUptoSaid : Prop := wholeEnoughUptoRow.holds Tryz.pinned (OpenSpec.upto wholeEnoughSpec)

end Rows
end Go.Proofs.YtnhkjehfmbfmmaaGreatDoor
