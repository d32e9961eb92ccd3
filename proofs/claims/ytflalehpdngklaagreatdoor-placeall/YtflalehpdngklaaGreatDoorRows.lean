/-
  NARROWER THAN 'FOR EVERY INPUT', by the rows' own cells (each row's printed sentence says how): AxiomTells: laid · BruteIn: laid · BruteLeast: laid · BruteDecides: laid · PlaceTries: laid · PlaceAll: laid · WholeTexts: laid · WholeWays: laid.
  DERIVED. THE GIVEN ROWS OF THIS SEAT. 8 by the template 'for every input the law returns true; each argument reads behind the call as it read before'; 0 by the template 'total and deterministic' (their statements: YtflalehpdngklaaGreatDoorTotals.lean).
  GIVEN WITH THE SEED: the statements are not yours to turn. If you find one false, say at which input.
  Laid BY PROGRAM, IN A SANDBOX (cutbox-rows.mjs): the forced cells as the released guide's own fill.sh prints them over the translation e2661b0690a7c090… (all of the seat's roots in one cut). By AI agents, Wed Nov 11 2026. No macro, syntax, notation, axiom, sorry.
-/
import Derived.Test.YtflalehpdngklaaGreatDoorChecked
import GoSem.PinnedTables
import GoSem.Claim
import GoSem.ClaimJoined
import GoSem.ClaimMapViews
import Derived.JoinedTies
import Derived.KernelRfl
namespace Go.Proofs.YtflalehpdngklaaGreatDoor
/- THE CELL 'sum', in the pinned program and in every row, IS THE sha256 OF THE DUMP (.gsa) THAT YtflalehpdngklaaGreatDoorProg.lean LOADS. Nothing in Lean hashes anything: it is a label: what it is worth is what the hold of that sum in a sandbox is worth. -/
noncomputable def Tryz.pinned : Pinned := { name := "ytflalehpdngklaagreatdoor", sum := "e2661b0690a7c0903e3a59dd9840bf9110fcd7719ee19e2b42447c720fd209c4", checked := Tryz.checked }
namespace Rows
def none {H : Type} : Left H := { results := [], args := [] }

/- WHAT THE LISTED PACKAGE-LEVEL VARIABLES READ AS WHEN THE CALL BEGINS. Each datum BY PROGRAM (the guide's laid-datum.mjs) off the statement by which the dump's own 'gosem.cut.vars' lays the variable. In a bare row this is a premise. The card (YtflalehpdngklaaGreatDoorCards.lean) ties it to the program's text. -/
def laid_math_bits_deBruijn64tab {H : Type} : DataW H := .agg [.lit (.int .u8 0), .lit (.int .u8 1), .lit (.int .u8 56), .lit (.int .u8 2), .lit (.int .u8 57), .lit (.int .u8 49), .lit (.int .u8 28), .lit (.int .u8 3), .lit (.int .u8 61), .lit (.int .u8 58), .lit (.int .u8 42), .lit (.int .u8 50), .lit (.int .u8 38), .lit (.int .u8 29), .lit (.int .u8 17), .lit (.int .u8 4), .lit (.int .u8 62), .lit (.int .u8 47), .lit (.int .u8 59), .lit (.int .u8 36), .lit (.int .u8 45), .lit (.int .u8 43), .lit (.int .u8 51), .lit (.int .u8 22), .lit (.int .u8 53), .lit (.int .u8 39), .lit (.int .u8 33), .lit (.int .u8 30), .lit (.int .u8 24), .lit (.int .u8 18), .lit (.int .u8 12), .lit (.int .u8 5), .lit (.int .u8 63), .lit (.int .u8 55), .lit (.int .u8 48), .lit (.int .u8 27), .lit (.int .u8 60), .lit (.int .u8 41), .lit (.int .u8 37), .lit (.int .u8 16), .lit (.int .u8 46), .lit (.int .u8 35), .lit (.int .u8 44), .lit (.int .u8 21), .lit (.int .u8 52), .lit (.int .u8 32), .lit (.int .u8 23), .lit (.int .u8 11), .lit (.int .u8 54), .lit (.int .u8 26), .lit (.int .u8 40), .lit (.int .u8 15), .lit (.int .u8 34), .lit (.int .u8 20), .lit (.int .u8 31), .lit (.int .u8 10), .lit (.int .u8 25), .lit (.int .u8 14), .lit (.int .u8 19), .lit (.int .u8 9), .lit (.int .u8 13), .lit (.int .u8 8), .lit (.int .u8 7), .lit (.int .u8 6)]
def laid_burgage_level_kinds {H : Type} : DataW H := .agg [.agg [.lit (.string [114, 101, 97, 100, 45, 97, 116, 111, 109, 105, 99]), .lit (.int .i64 0)], .agg [.lit (.string [115, 101, 115, 115, 105, 111, 110, 45, 97, 116, 111, 109, 105, 99]), .lit (.int .i64 1)], .agg [.lit (.string [99, 97, 117, 115, 97, 108]), .lit (.int .i64 3)], .agg [.lit (.string [117, 112, 100, 97, 116, 101]), .lit (.int .i64 9)], .agg [.lit (.string [112, 114, 101, 102, 105, 120]), .lit (.int .i64 5)], .agg [.lit (.string [112, 97, 114, 97, 108, 108, 101, 108]), .lit (.int .i64 11)], .agg [.lit (.string [115, 110, 97, 112, 115, 104, 111, 116]), .lit (.int .i64 13)], .agg [.lit (.string [115, 101, 114, 105, 97, 108]), .lit (.int .i64 17)], .agg [.lit (.string [116, 105, 109, 101, 45, 99, 97, 117, 115, 97, 108]), .lit (.int .i64 34)], .agg [.lit (.string [116, 105, 109, 101, 45, 112, 114, 101, 102, 105, 120]), .lit (.int .i64 36)], .agg [.lit (.string [116, 105, 109, 101, 45, 115, 110, 97, 112, 115, 104, 111, 116]), .lit (.int .i64 44)], .agg [.lit (.string [115, 116, 114, 105, 99, 116]), .lit (.int .i64 48)]]
def laid_math_bits_deBruijn32tab {H : Type} : DataW H := .agg [.lit (.int .u8 0), .lit (.int .u8 1), .lit (.int .u8 28), .lit (.int .u8 2), .lit (.int .u8 29), .lit (.int .u8 14), .lit (.int .u8 24), .lit (.int .u8 3), .lit (.int .u8 30), .lit (.int .u8 22), .lit (.int .u8 20), .lit (.int .u8 15), .lit (.int .u8 25), .lit (.int .u8 17), .lit (.int .u8 4), .lit (.int .u8 8), .lit (.int .u8 31), .lit (.int .u8 27), .lit (.int .u8 13), .lit (.int .u8 23), .lit (.int .u8 21), .lit (.int .u8 19), .lit (.int .u8 16), .lit (.int .u8 7), .lit (.int .u8 26), .lit (.int .u8 12), .lit (.int .u8 18), .lit (.int .u8 6), .lit (.int .u8 11), .lit (.int .u8 5), .lit (.int .u8 10), .lit (.int .u8 9)]
def laid_internal_strconv_uint64pow10 {H : Type} : DataW H := .agg [.lit (.int .u64 1), .lit (.int .u64 10), .lit (.int .u64 100), .lit (.int .u64 1000), .lit (.int .u64 10000), .lit (.int .u64 100000), .lit (.int .u64 1000000), .lit (.int .u64 10000000), .lit (.int .u64 100000000), .lit (.int .u64 1000000000), .lit (.int .u64 10000000000), .lit (.int .u64 100000000000), .lit (.int .u64 1000000000000), .lit (.int .u64 10000000000000), .lit (.int .u64 100000000000000), .lit (.int .u64 1000000000000000), .lit (.int .u64 10000000000000000), .lit (.int .u64 100000000000000000), .lit (.int .u64 1000000000000000000), .lit (.int .u64 10000000000000000000)]
def laid_unicode_utf8_acceptRanges {H : Type} : DataW H := .agg [.agg [.lit (.int .u8 128), .lit (.int .u8 191)], .agg [.lit (.int .u8 160), .lit (.int .u8 191)], .agg [.lit (.int .u8 128), .lit (.int .u8 159)], .agg [.lit (.int .u8 144), .lit (.int .u8 191)], .agg [.lit (.int .u8 128), .lit (.int .u8 143)], .agg [.lit (.int .u8 0), .lit (.int .u8 0)], .agg [.lit (.int .u8 0), .lit (.int .u8 0)], .agg [.lit (.int .u8 0), .lit (.int .u8 0)], .agg [.lit (.int .u8 0), .lit (.int .u8 0)], .agg [.lit (.int .u8 0), .lit (.int .u8 0)], .agg [.lit (.int .u8 0), .lit (.int .u8 0)], .agg [.lit (.int .u8 0), .lit (.int .u8 0)], .agg [.lit (.int .u8 0), .lit (.int .u8 0)], .agg [.lit (.int .u8 0), .lit (.int .u8 0)], .agg [.lit (.int .u8 0), .lit (.int .u8 0)], .agg [.lit (.int .u8 0), .lit (.int .u8 0)]]
/-- One of Go's own tables, pinned by name: the form's constant. -/
def laid_unicode_utf8_first : DataW Unit := Go.Pinned.utf8First

/-- 'burgagelaw12.AxiomTells': WHATEVER THE INPUT: true; the input reads as it did. -/
def axiomTellsSpec : ChangeSpec := { name := "axiomTells", fn := fun _ => fun
  | [d1, d2] => { results := [.lit (.bool true)], args := [d1, d2] }
  | _ => none }
def axiomTellsRow : OpenClaim := { program := "ytflalehpdngklaagreatdoor", sum := "e2661b0690a7c0903e3a59dd9840bf9110fcd7719ee19e2b42447c720fd209c4", func := "burgage/burgagelaw12.AxiomTells", spec := "axiomTells", unfollowed := true, recurses := true, named := ["burgage/level.kinds", "math/bits.deBruijn64tab"], apart := false, laid := [("math/bits.deBruijn64tab", laid_math_bits_deBruijn64tab), ("burgage/level.kinds", laid_burgage_level_kinds)] }
def AxiomTellsSaid : Prop := axiomTellsRow.holds Tryz.pinned (OpenSpec.ofChange axiomTellsSpec)

/-- ITS FALSE NEIGHBOUR: 'it returns false'. Refute it at one input. -/
def axiomTellsWrong : ChangeSpec := { name := "axiomTells", fn := fun _ => fun
  | [d1, d2] => { results := [.lit (.bool false)], args := [d1, d2] }
  | _ => none }
def AxiomTellsWrongFalsely : Prop := axiomTellsRow.holds Tryz.pinned (OpenSpec.ofChange axiomTellsWrong)

/-- 'burgagelaw13.BruteIn': WHATEVER THE INPUT: true; the input reads as it did. -/
def bruteInSpec : ChangeSpec := { name := "bruteIn", fn := fun _ => fun
  | [d1, d2] => { results := [.lit (.bool true)], args := [d1, d2] }
  | _ => none }
def bruteInRow : OpenClaim := { program := "ytflalehpdngklaagreatdoor", sum := "e2661b0690a7c0903e3a59dd9840bf9110fcd7719ee19e2b42447c720fd209c4", func := "burgage/burgagelaw13.BruteIn", spec := "bruteIn", unfollowed := true, recurses := true, named := ["burgage/level.kinds", "math/bits.deBruijn64tab"], apart := false, laid := [("math/bits.deBruijn64tab", laid_math_bits_deBruijn64tab), ("burgage/level.kinds", laid_burgage_level_kinds)] }
def BruteInSaid : Prop := bruteInRow.holds Tryz.pinned (OpenSpec.ofChange bruteInSpec)

/-- ITS FALSE NEIGHBOUR: 'it returns false'. Refute it at one input. -/
def bruteInWrong : ChangeSpec := { name := "bruteIn", fn := fun _ => fun
  | [d1, d2] => { results := [.lit (.bool false)], args := [d1, d2] }
  | _ => none }
def BruteInWrongFalsely : Prop := bruteInRow.holds Tryz.pinned (OpenSpec.ofChange bruteInWrong)

/-- 'burgagelaw13.BruteLeast': WHATEVER THE INPUT: true; the input reads as it did. -/
def bruteLeastSpec : ChangeSpec := { name := "bruteLeast", fn := fun _ => fun
  | [d1, d2] => { results := [.lit (.bool true)], args := [d1, d2] }
  | _ => none }
def bruteLeastRow : OpenClaim := { program := "ytflalehpdngklaagreatdoor", sum := "e2661b0690a7c0903e3a59dd9840bf9110fcd7719ee19e2b42447c720fd209c4", func := "burgage/burgagelaw13.BruteLeast", spec := "bruteLeast", unfollowed := true, recurses := true, named := ["burgage/level.kinds", "math/bits.deBruijn64tab"], apart := false, laid := [("math/bits.deBruijn64tab", laid_math_bits_deBruijn64tab), ("burgage/level.kinds", laid_burgage_level_kinds)] }
def BruteLeastSaid : Prop := bruteLeastRow.holds Tryz.pinned (OpenSpec.ofChange bruteLeastSpec)

/-- ITS FALSE NEIGHBOUR: 'it returns false'. Refute it at one input. -/
def bruteLeastWrong : ChangeSpec := { name := "bruteLeast", fn := fun _ => fun
  | [d1, d2] => { results := [.lit (.bool false)], args := [d1, d2] }
  | _ => none }
def BruteLeastWrongFalsely : Prop := bruteLeastRow.holds Tryz.pinned (OpenSpec.ofChange bruteLeastWrong)

/-- 'burgagelaw13.BruteDecides': WHATEVER THE INPUT: true; the input reads as it did. -/
def bruteDecidesSpec : ChangeSpec := { name := "bruteDecides", fn := fun _ => fun
  | [d1, d2] => { results := [.lit (.bool true)], args := [d1, d2] }
  | _ => none }
def bruteDecidesRow : OpenClaim := { program := "ytflalehpdngklaagreatdoor", sum := "e2661b0690a7c0903e3a59dd9840bf9110fcd7719ee19e2b42447c720fd209c4", func := "burgage/burgagelaw13.BruteDecides", spec := "bruteDecides", unfollowed := true, recurses := true, named := ["burgage/level.kinds", "math/bits.deBruijn64tab"], apart := false, laid := [("math/bits.deBruijn64tab", laid_math_bits_deBruijn64tab), ("burgage/level.kinds", laid_burgage_level_kinds)] }
def BruteDecidesSaid : Prop := bruteDecidesRow.holds Tryz.pinned (OpenSpec.ofChange bruteDecidesSpec)

/-- ITS FALSE NEIGHBOUR: 'it returns false'. Refute it at one input. -/
def bruteDecidesWrong : ChangeSpec := { name := "bruteDecides", fn := fun _ => fun
  | [d1, d2] => { results := [.lit (.bool false)], args := [d1, d2] }
  | _ => none }
def BruteDecidesWrongFalsely : Prop := bruteDecidesRow.holds Tryz.pinned (OpenSpec.ofChange bruteDecidesWrong)

/-- 'burgagelaw14.PlaceTries': WHATEVER THE INPUT: true; the input reads as it did. -/
def placeTriesSpec : ChangeSpec := { name := "placeTries", fn := fun _ => fun
  | [d1, d2] => { results := [.lit (.bool true)], args := [d1, d2] }
  | _ => none }
def placeTriesRow : OpenClaim := { program := "ytflalehpdngklaagreatdoor", sum := "e2661b0690a7c0903e3a59dd9840bf9110fcd7719ee19e2b42447c720fd209c4", func := "burgage/burgagelaw14.PlaceTries", spec := "placeTries", unfollowed := true, recurses := true, named := ["math/bits.deBruijn64tab"], apart := false, laid := [("math/bits.deBruijn64tab", laid_math_bits_deBruijn64tab)] }
def PlaceTriesSaid : Prop := placeTriesRow.holds Tryz.pinned (OpenSpec.ofChange placeTriesSpec)

/-- ITS FALSE NEIGHBOUR: 'it returns false'. Refute it at one input. -/
def placeTriesWrong : ChangeSpec := { name := "placeTries", fn := fun _ => fun
  | [d1, d2] => { results := [.lit (.bool false)], args := [d1, d2] }
  | _ => none }
def PlaceTriesWrongFalsely : Prop := placeTriesRow.holds Tryz.pinned (OpenSpec.ofChange placeTriesWrong)

/-- 'burgagelaw14.PlaceAll': WHATEVER THE INPUT: true; the input reads as it did. -/
def placeAllSpec : ChangeSpec := { name := "placeAll", fn := fun _ => fun
  | [d1, d2] => { results := [.lit (.bool true)], args := [d1, d2] }
  | _ => none }
def placeAllRow : OpenClaim := { program := "ytflalehpdngklaagreatdoor", sum := "e2661b0690a7c0903e3a59dd9840bf9110fcd7719ee19e2b42447c720fd209c4", func := "burgage/burgagelaw14.PlaceAll", spec := "placeAll", unfollowed := true, recurses := true, named := ["math/bits.deBruijn64tab", "burgage/level.kinds"], apart := false, laid := [("math/bits.deBruijn64tab", laid_math_bits_deBruijn64tab), ("burgage/level.kinds", laid_burgage_level_kinds)] }
def PlaceAllSaid : Prop := placeAllRow.holds Tryz.pinned (OpenSpec.ofChange placeAllSpec)

/-- ITS FALSE NEIGHBOUR: 'it returns false'. Refute it at one input. -/
def placeAllWrong : ChangeSpec := { name := "placeAll", fn := fun _ => fun
  | [d1, d2] => { results := [.lit (.bool false)], args := [d1, d2] }
  | _ => none }
def PlaceAllWrongFalsely : Prop := placeAllRow.holds Tryz.pinned (OpenSpec.ofChange placeAllWrong)

/-- 'burgagetop.WholeTexts': WHATEVER THE INPUT: true; the input reads as it did. -/
def wholeTextsSpec : ChangeSpec := { name := "wholeTexts", fn := fun _ => fun
  | [d] => { results := [.lit (.bool true)], args := [d] }
  | _ => none }
def wholeTextsRow : OpenClaim := { program := "ytflalehpdngklaagreatdoor", sum := "e2661b0690a7c0903e3a59dd9840bf9110fcd7719ee19e2b42447c720fd209c4", func := "burgage/burgagetop.WholeTexts", spec := "wholeTexts", inPlace := ["internal/bytealg.CountString", "internal/bytealg.IndexByteString", "internal/bytealg.IndexString", "internal/abi.NoEscape"], unfollowed := true, recurses := true, named := ["unicode/utf8.first", "unicode/utf8.acceptRanges", "internal/bytealg.MaxLen", "internal/strconv.uint64pow10", "math/bits.deBruijn32tab", "math/bits.deBruijn64tab"], apart := false, laid := [("math/bits.deBruijn32tab", laid_math_bits_deBruijn32tab), ("math/bits.deBruijn64tab", laid_math_bits_deBruijn64tab), ("internal/strconv.uint64pow10", laid_internal_strconv_uint64pow10), ("unicode/utf8.acceptRanges", laid_unicode_utf8_acceptRanges), ("unicode/utf8.first", laid_unicode_utf8_first)] }
def WholeTextsSaid : Prop := wholeTextsRow.holds Tryz.pinned (OpenSpec.ofChange wholeTextsSpec)

/-- ITS FALSE NEIGHBOUR: 'it returns false'. Refute it at one input. -/
def wholeTextsWrong : ChangeSpec := { name := "wholeTexts", fn := fun _ => fun
  | [d] => { results := [.lit (.bool false)], args := [d] }
  | _ => none }
def WholeTextsWrongFalsely : Prop := wholeTextsRow.holds Tryz.pinned (OpenSpec.ofChange wholeTextsWrong)

/-- 'burgagetop.WholeWays': WHATEVER THE INPUT: true; the input reads as it did. -/
def wholeWaysSpec : ChangeSpec := { name := "wholeWays", fn := fun _ => fun
  | [d1, d2] => { results := [.lit (.bool true)], args := [d1, d2] }
  | _ => none }
def wholeWaysRow : OpenClaim := { program := "ytflalehpdngklaagreatdoor", sum := "e2661b0690a7c0903e3a59dd9840bf9110fcd7719ee19e2b42447c720fd209c4", func := "burgage/burgagetop.WholeWays", spec := "wholeWays", unfollowed := true, recurses := true, named := ["burgage/level.kinds", "math/bits.deBruijn64tab"], apart := false, laid := [("math/bits.deBruijn64tab", laid_math_bits_deBruijn64tab), ("burgage/level.kinds", laid_burgage_level_kinds)] }
def WholeWaysSaid : Prop := wholeWaysRow.holds Tryz.pinned (OpenSpec.ofChange wholeWaysSpec)

/-- ITS FALSE NEIGHBOUR: 'it returns false'. Refute it at one input. -/
def wholeWaysWrong : ChangeSpec := { name := "wholeWays", fn := fun _ => fun
  | [d1, d2] => { results := [.lit (.bool false)], args := [d1, d2] }
  | _ => none }
def WholeWaysWrongFalsely : Prop := wholeWaysRow.holds Tryz.pinned (OpenSpec.ofChange wholeWaysWrong)

/- THE SECOND FORM. 'bulk': how many values and letters a reading holds, each counted each time it is reached (what is shared counts as often as it is met; a slice's spare places count too). A statement '..UptoSaid' is the law's where the arguments, and the package variables that the reading takes, are together of bulk at most 1048576: NARROWER than '..Said'. Prove '..Said' where nothing that the law and all that it calls make is longer than what came in: it says more and counts as full. Else prove '..UptoSaid'. A law counts once. -/
mutual
def uptoBulk {H : Type} : DataW H → Nat
  | .lit (.string bytes) => bytes.length + 1
  | .lit _ => 1
  | .nil => 1
  | .ptr d => uptoBulk d + 1
  | .slice elems spare => uptoBulkAll elems + uptoBulkAll spare + 1
  | .agg parts => uptoBulkAll parts + 1
  | .iface _ d => uptoBulk d + 1
  | .map entries => uptoBulkEntries entries + 1
  | .held _ => 1
def uptoBulkAll {H : Type} : List (DataW H) → Nat
  | [] => 0
  | d :: r => uptoBulk d + uptoBulkAll r
def uptoBulkEntries {H : Type} : List (Lit × DataW H) → Nat
  | [] => 0
  | x :: r => uptoBulkEntry x + uptoBulkEntries r
def uptoBulkEntry {H : Type} : Lit × DataW H → Nat
  | (.string bytes, d) => bytes.length + uptoBulk d + 1
  | (_, d) => uptoBulk d + 1
 end
def uptoSmall : (H : Type) → List (DataW H) → Bool := fun _ ds => decide (uptoBulkAll ds ≤ 1048576)
def OpenSpec.upto (s : _root_.Go.ChangeSpec) : _root_.Go.OpenSpec := { _root_.Go.OpenSpec.ofChange s with cond := some uptoSmall }

/-- 'burgagelaw12.AxiomTells', WHERE WHAT IT READS IS OF BULK AT MOST 1048576: true; the input reads as it did. -/
def axiomTellsUptoRow : OpenClaim := { program := "ytflalehpdngklaagreatdoor", sum := "e2661b0690a7c0903e3a59dd9840bf9110fcd7719ee19e2b42447c720fd209c4", func := "burgage/burgagelaw12.AxiomTells", spec := "axiomTells", unfollowed := true, recurses := true, named := ["burgage/level.kinds", "math/bits.deBruijn64tab"], apart := false, laid := [("math/bits.deBruijn64tab", laid_math_bits_deBruijn64tab), ("burgage/level.kinds", laid_burgage_level_kinds)], narrowed := true }
def AxiomTellsUptoSaid : Prop := axiomTellsUptoRow.holds Tryz.pinned (OpenSpec.upto axiomTellsSpec)

/-- 'burgagelaw13.BruteIn', WHERE WHAT IT READS IS OF BULK AT MOST 1048576: true; the input reads as it did. -/
def bruteInUptoRow : OpenClaim := { program := "ytflalehpdngklaagreatdoor", sum := "e2661b0690a7c0903e3a59dd9840bf9110fcd7719ee19e2b42447c720fd209c4", func := "burgage/burgagelaw13.BruteIn", spec := "bruteIn", unfollowed := true, recurses := true, named := ["burgage/level.kinds", "math/bits.deBruijn64tab"], apart := false, laid := [("math/bits.deBruijn64tab", laid_math_bits_deBruijn64tab), ("burgage/level.kinds", laid_burgage_level_kinds)], narrowed := true }
def BruteInUptoSaid : Prop := bruteInUptoRow.holds Tryz.pinned (OpenSpec.upto bruteInSpec)

/-- 'burgagelaw13.BruteLeast', WHERE WHAT IT READS IS OF BULK AT MOST 1048576: true; the input reads as it did. -/
def bruteLeastUptoRow : OpenClaim := { program := "ytflalehpdngklaagreatdoor", sum := "e2661b0690a7c0903e3a59dd9840bf9110fcd7719ee19e2b42447c720fd209c4", func := "burgage/burgagelaw13.BruteLeast", spec := "bruteLeast", unfollowed := true, recurses := true, named := ["burgage/level.kinds", "math/bits.deBruijn64tab"], apart := false, laid := [("math/bits.deBruijn64tab", laid_math_bits_deBruijn64tab), ("burgage/level.kinds", laid_burgage_level_kinds)], narrowed := true }
def BruteLeastUptoSaid : Prop := bruteLeastUptoRow.holds Tryz.pinned (OpenSpec.upto bruteLeastSpec)

/-- 'burgagelaw13.BruteDecides', WHERE WHAT IT READS IS OF BULK AT MOST 1048576: true; the input reads as it did. -/
def bruteDecidesUptoRow : OpenClaim := { program := "ytflalehpdngklaagreatdoor", sum := "e2661b0690a7c0903e3a59dd9840bf9110fcd7719ee19e2b42447c720fd209c4", func := "burgage/burgagelaw13.BruteDecides", spec := "bruteDecides", unfollowed := true, recurses := true, named := ["burgage/level.kinds", "math/bits.deBruijn64tab"], apart := false, laid := [("math/bits.deBruijn64tab", laid_math_bits_deBruijn64tab), ("burgage/level.kinds", laid_burgage_level_kinds)], narrowed := true }
def BruteDecidesUptoSaid : Prop := bruteDecidesUptoRow.holds Tryz.pinned (OpenSpec.upto bruteDecidesSpec)

/-- 'burgagelaw14.PlaceTries', WHERE WHAT IT READS IS OF BULK AT MOST 1048576: true; the input reads as it did. -/
def placeTriesUptoRow : OpenClaim := { program := "ytflalehpdngklaagreatdoor", sum := "e2661b0690a7c0903e3a59dd9840bf9110fcd7719ee19e2b42447c720fd209c4", func := "burgage/burgagelaw14.PlaceTries", spec := "placeTries", unfollowed := true, recurses := true, named := ["math/bits.deBruijn64tab"], apart := false, laid := [("math/bits.deBruijn64tab", laid_math_bits_deBruijn64tab)], narrowed := true }
def PlaceTriesUptoSaid : Prop := placeTriesUptoRow.holds Tryz.pinned (OpenSpec.upto placeTriesSpec)

/-- 'burgagelaw14.PlaceAll', WHERE WHAT IT READS IS OF BULK AT MOST 1048576: true; the input reads as it did. -/
def placeAllUptoRow : OpenClaim := { program := "ytflalehpdngklaagreatdoor", sum := "e2661b0690a7c0903e3a59dd9840bf9110fcd7719ee19e2b42447c720fd209c4", func := "burgage/burgagelaw14.PlaceAll", spec := "placeAll", unfollowed := true, recurses := true, named := ["math/bits.deBruijn64tab", "burgage/level.kinds"], apart := false, laid := [("math/bits.deBruijn64tab", laid_math_bits_deBruijn64tab), ("burgage/level.kinds", laid_burgage_level_kinds)], narrowed := true }
def PlaceAllUptoSaid : Prop := placeAllUptoRow.holds Tryz.pinned (OpenSpec.upto placeAllSpec)

/-- 'burgagetop.WholeTexts', WHERE WHAT IT READS IS OF BULK AT MOST 1048576: true; the input reads as it did. -/
def wholeTextsUptoRow : OpenClaim := { program := "ytflalehpdngklaagreatdoor", sum := "e2661b0690a7c0903e3a59dd9840bf9110fcd7719ee19e2b42447c720fd209c4", func := "burgage/burgagetop.WholeTexts", spec := "wholeTexts", inPlace := ["internal/bytealg.CountString", "internal/bytealg.IndexByteString", "internal/bytealg.IndexString", "internal/abi.NoEscape"], unfollowed := true, recurses := true, named := ["unicode/utf8.first", "unicode/utf8.acceptRanges", "internal/bytealg.MaxLen", "internal/strconv.uint64pow10", "math/bits.deBruijn32tab", "math/bits.deBruijn64tab"], apart := false, laid := [("math/bits.deBruijn32tab", laid_math_bits_deBruijn32tab), ("math/bits.deBruijn64tab", laid_math_bits_deBruijn64tab), ("internal/strconv.uint64pow10", laid_internal_strconv_uint64pow10), ("unicode/utf8.acceptRanges", laid_unicode_utf8_acceptRanges), ("unicode/utf8.first", laid_unicode_utf8_first)], narrowed := true }
def WholeTextsUptoSaid : Prop := wholeTextsUptoRow.holds Tryz.pinned (OpenSpec.upto wholeTextsSpec)

/-- 'burgagetop.WholeWays', WHERE WHAT IT READS IS OF BULK AT MOST 1048576: true; the input reads as it did. -/
def wholeWaysUptoRow : OpenClaim := { program := "ytflalehpdngklaagreatdoor", sum := "e2661b0690a7c0903e3a59dd9840bf9110fcd7719ee19e2b42447c720fd209c4", func := "burgage/burgagetop.WholeWays", spec := "wholeWays", unfollowed := true, recurses := true, named := ["burgage/level.kinds", "math/bits.deBruijn64tab"], apart := false, laid := [("math/bits.deBruijn64tab", laid_math_bits_deBruijn64tab), ("burgage/level.kinds", laid_burgage_level_kinds)], narrowed := true }
def WholeWaysUptoSaid : Prop := wholeWaysUptoRow.holds Tryz.pinned (OpenSpec.upto wholeWaysSpec)

end Rows
end Go.Proofs.YtflalehpdngklaaGreatDoor
