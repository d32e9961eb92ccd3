/-
  NARROWER THAN 'FOR EVERY INPUT', by the rows' own cells (each row's printed sentence says how): BruteIn: laid · BruteLeast: laid · BruteDecides: laid · PlaceTries: laid · WholeWays: laid · WholeMemo: laid.
  DERIVED. THE GIVEN ROWS OF THIS SEAT. 6 by the template 'for every input the law returns true; each argument reads behind the call as it read before'; 0 by the template 'total and deterministic' (their statements: YtfancjmhdbaoeaaGreatDoorTotals.lean).
  GIVEN WITH THE SEED: the statements are not yours to turn. If you find one false, say at which input.
  Laid BY PROGRAM, IN A SANDBOX (cutbox-rows.mjs): the forced cells as the released guide's own fill.sh prints them over the translation 953d2d2f6ecf1a87… (all of the seat's roots in one cut). By AI agents, Wed Nov 11 2026. No macro, syntax, notation, axiom, sorry.
-/
import Derived.Test.YtfancjmhdbaoeaaGreatDoorChecked
import GoSem.Claim
import GoSem.ClaimJoined
import GoSem.ClaimMapViews
import Derived.JoinedTies
import Derived.KernelRfl
namespace Go.Proofs.YtfancjmhdbaoeaaGreatDoor
/- THE CELL 'sum', in the pinned program and in every row, IS THE sha256 OF THE DUMP (.gsa) THAT YtfancjmhdbaoeaaGreatDoorProg.lean LOADS. Nothing in Lean hashes anything: it is a label: what it is worth is what the hold of that sum in a sandbox is worth. -/
noncomputable def Tryz.pinned : Pinned := { name := "ytfancjmhdbaoeaagreatdoor", sum := "953d2d2f6ecf1a873cd619c24b4fcac1388fe04e2d3df20e2bdbc872c1af06ab", checked := Tryz.checked }
namespace Rows
def none {H : Type} : Left H := { results := [], args := [] }

/- WHAT THE LISTED PACKAGE-LEVEL VARIABLES READ AS WHEN THE CALL BEGINS. Each datum BY PROGRAM (the guide's laid-datum.mjs) off the statement by which the dump's own 'gosem.cut.vars' lays the variable. In a bare row this is a premise. The card (YtfancjmhdbaoeaaGreatDoorCards.lean) ties it to the program's text. -/
def laid_math_bits_deBruijn64tab {H : Type} : DataW H := .agg [.lit (.int .u8 0), .lit (.int .u8 1), .lit (.int .u8 56), .lit (.int .u8 2), .lit (.int .u8 57), .lit (.int .u8 49), .lit (.int .u8 28), .lit (.int .u8 3), .lit (.int .u8 61), .lit (.int .u8 58), .lit (.int .u8 42), .lit (.int .u8 50), .lit (.int .u8 38), .lit (.int .u8 29), .lit (.int .u8 17), .lit (.int .u8 4), .lit (.int .u8 62), .lit (.int .u8 47), .lit (.int .u8 59), .lit (.int .u8 36), .lit (.int .u8 45), .lit (.int .u8 43), .lit (.int .u8 51), .lit (.int .u8 22), .lit (.int .u8 53), .lit (.int .u8 39), .lit (.int .u8 33), .lit (.int .u8 30), .lit (.int .u8 24), .lit (.int .u8 18), .lit (.int .u8 12), .lit (.int .u8 5), .lit (.int .u8 63), .lit (.int .u8 55), .lit (.int .u8 48), .lit (.int .u8 27), .lit (.int .u8 60), .lit (.int .u8 41), .lit (.int .u8 37), .lit (.int .u8 16), .lit (.int .u8 46), .lit (.int .u8 35), .lit (.int .u8 44), .lit (.int .u8 21), .lit (.int .u8 52), .lit (.int .u8 32), .lit (.int .u8 23), .lit (.int .u8 11), .lit (.int .u8 54), .lit (.int .u8 26), .lit (.int .u8 40), .lit (.int .u8 15), .lit (.int .u8 34), .lit (.int .u8 20), .lit (.int .u8 31), .lit (.int .u8 10), .lit (.int .u8 25), .lit (.int .u8 14), .lit (.int .u8 19), .lit (.int .u8 9), .lit (.int .u8 13), .lit (.int .u8 8), .lit (.int .u8 7), .lit (.int .u8 6)]
def laid_burgage_level_kinds {H : Type} : DataW H := .agg [.agg [.lit (.string [114, 101, 97, 100, 45, 97, 116, 111, 109, 105, 99]), .lit (.int .i64 0)], .agg [.lit (.string [115, 101, 115, 115, 105, 111, 110, 45, 97, 116, 111, 109, 105, 99]), .lit (.int .i64 1)], .agg [.lit (.string [99, 97, 117, 115, 97, 108]), .lit (.int .i64 3)], .agg [.lit (.string [117, 112, 100, 97, 116, 101]), .lit (.int .i64 9)], .agg [.lit (.string [112, 114, 101, 102, 105, 120]), .lit (.int .i64 5)], .agg [.lit (.string [112, 97, 114, 97, 108, 108, 101, 108]), .lit (.int .i64 11)], .agg [.lit (.string [115, 110, 97, 112, 115, 104, 111, 116]), .lit (.int .i64 13)], .agg [.lit (.string [115, 101, 114, 105, 97, 108]), .lit (.int .i64 17)], .agg [.lit (.string [116, 105, 109, 101, 45, 99, 97, 117, 115, 97, 108]), .lit (.int .i64 34)], .agg [.lit (.string [116, 105, 109, 101, 45, 112, 114, 101, 102, 105, 120]), .lit (.int .i64 36)], .agg [.lit (.string [116, 105, 109, 101, 45, 115, 110, 97, 112, 115, 104, 111, 116]), .lit (.int .i64 44)], .agg [.lit (.string [115, 116, 114, 105, 99, 116]), .lit (.int .i64 48)]]

/-- 'burgagelaw13.BruteIn': WHATEVER THE INPUT: true; the input reads as it did. -/
def bruteInSpec : ChangeSpec := { name := "bruteIn", fn := fun _ => fun
  | [d1, d2] => { results := [.lit (.bool true)], args := [d1, d2] }
  | _ => none }
def bruteInRow : OpenClaim := { program := "ytfancjmhdbaoeaagreatdoor", sum := "953d2d2f6ecf1a873cd619c24b4fcac1388fe04e2d3df20e2bdbc872c1af06ab", func := "burgage/burgagelaw13.BruteIn", spec := "bruteIn", unfollowed := true, recurses := true, named := ["burgage/level.kinds", "math/bits.deBruijn64tab"], plainKeys := false, apart := false, laid := [("math/bits.deBruijn64tab", laid_math_bits_deBruijn64tab), ("burgage/level.kinds", laid_burgage_level_kinds)] }
def BruteInSaid : Prop := bruteInRow.holds Tryz.pinned (OpenSpec.ofChange bruteInSpec)

/-- ITS FALSE NEIGHBOUR: 'it returns false'. Refute it at one input. -/
def bruteInWrong : ChangeSpec := { name := "bruteIn", fn := fun _ => fun
  | [d1, d2] => { results := [.lit (.bool false)], args := [d1, d2] }
  | _ => none }
def BruteInWrongFalsely : Prop := bruteInRow.holds Tryz.pinned (OpenSpec.ofChange bruteInWrong)

/-- 'burgagelaw13.BruteLeast': WHATEVER THE INPUT: true; the input reads as it did. -/
def bruteLeastSpec : ChangeSpec := { name := "bruteLeast", fn := fun _ => fun
  | [d1, d2] => { results := [.lit (.bool true)], args := [d1, d2] }
  | _ => none }
def bruteLeastRow : OpenClaim := { program := "ytfancjmhdbaoeaagreatdoor", sum := "953d2d2f6ecf1a873cd619c24b4fcac1388fe04e2d3df20e2bdbc872c1af06ab", func := "burgage/burgagelaw13.BruteLeast", spec := "bruteLeast", unfollowed := true, recurses := true, named := ["burgage/level.kinds", "math/bits.deBruijn64tab"], plainKeys := false, apart := false, laid := [("math/bits.deBruijn64tab", laid_math_bits_deBruijn64tab), ("burgage/level.kinds", laid_burgage_level_kinds)] }
def BruteLeastSaid : Prop := bruteLeastRow.holds Tryz.pinned (OpenSpec.ofChange bruteLeastSpec)

/-- ITS FALSE NEIGHBOUR: 'it returns false'. Refute it at one input. -/
def bruteLeastWrong : ChangeSpec := { name := "bruteLeast", fn := fun _ => fun
  | [d1, d2] => { results := [.lit (.bool false)], args := [d1, d2] }
  | _ => none }
def BruteLeastWrongFalsely : Prop := bruteLeastRow.holds Tryz.pinned (OpenSpec.ofChange bruteLeastWrong)

/-- 'burgagelaw13.BruteDecides': WHATEVER THE INPUT: true; the input reads as it did. -/
def bruteDecidesSpec : ChangeSpec := { name := "bruteDecides", fn := fun _ => fun
  | [d1, d2] => { results := [.lit (.bool true)], args := [d1, d2] }
  | _ => none }
def bruteDecidesRow : OpenClaim := { program := "ytfancjmhdbaoeaagreatdoor", sum := "953d2d2f6ecf1a873cd619c24b4fcac1388fe04e2d3df20e2bdbc872c1af06ab", func := "burgage/burgagelaw13.BruteDecides", spec := "bruteDecides", unfollowed := true, recurses := true, named := ["burgage/level.kinds", "math/bits.deBruijn64tab"], plainKeys := false, apart := false, laid := [("math/bits.deBruijn64tab", laid_math_bits_deBruijn64tab), ("burgage/level.kinds", laid_burgage_level_kinds)] }
def BruteDecidesSaid : Prop := bruteDecidesRow.holds Tryz.pinned (OpenSpec.ofChange bruteDecidesSpec)

/-- ITS FALSE NEIGHBOUR: 'it returns false'. Refute it at one input. -/
def bruteDecidesWrong : ChangeSpec := { name := "bruteDecides", fn := fun _ => fun
  | [d1, d2] => { results := [.lit (.bool false)], args := [d1, d2] }
  | _ => none }
def BruteDecidesWrongFalsely : Prop := bruteDecidesRow.holds Tryz.pinned (OpenSpec.ofChange bruteDecidesWrong)

/-- 'burgagelaw14.PlaceTries': WHATEVER THE INPUT: true; the input reads as it did. -/
def placeTriesSpec : ChangeSpec := { name := "placeTries", fn := fun _ => fun
  | [d1, d2] => { results := [.lit (.bool true)], args := [d1, d2] }
  | _ => none }
def placeTriesRow : OpenClaim := { program := "ytfancjmhdbaoeaagreatdoor", sum := "953d2d2f6ecf1a873cd619c24b4fcac1388fe04e2d3df20e2bdbc872c1af06ab", func := "burgage/burgagelaw14.PlaceTries", spec := "placeTries", unfollowed := true, recurses := true, named := ["math/bits.deBruijn64tab"], plainKeys := false, apart := false, laid := [("math/bits.deBruijn64tab", laid_math_bits_deBruijn64tab)] }
def PlaceTriesSaid : Prop := placeTriesRow.holds Tryz.pinned (OpenSpec.ofChange placeTriesSpec)

/-- ITS FALSE NEIGHBOUR: 'it returns false'. Refute it at one input. -/
def placeTriesWrong : ChangeSpec := { name := "placeTries", fn := fun _ => fun
  | [d1, d2] => { results := [.lit (.bool false)], args := [d1, d2] }
  | _ => none }
def PlaceTriesWrongFalsely : Prop := placeTriesRow.holds Tryz.pinned (OpenSpec.ofChange placeTriesWrong)

/-- 'burgagetop.WholeWays': WHATEVER THE INPUT: true; the input reads as it did. -/
def wholeWaysSpec : ChangeSpec := { name := "wholeWays", fn := fun _ => fun
  | [d1, d2] => { results := [.lit (.bool true)], args := [d1, d2] }
  | _ => none }
def wholeWaysRow : OpenClaim := { program := "ytfancjmhdbaoeaagreatdoor", sum := "953d2d2f6ecf1a873cd619c24b4fcac1388fe04e2d3df20e2bdbc872c1af06ab", func := "burgage/burgagetop.WholeWays", spec := "wholeWays", unfollowed := true, recurses := true, named := ["burgage/level.kinds", "math/bits.deBruijn64tab"], plainKeys := false, apart := false, laid := [("math/bits.deBruijn64tab", laid_math_bits_deBruijn64tab), ("burgage/level.kinds", laid_burgage_level_kinds)] }
def WholeWaysSaid : Prop := wholeWaysRow.holds Tryz.pinned (OpenSpec.ofChange wholeWaysSpec)

/-- ITS FALSE NEIGHBOUR: 'it returns false'. Refute it at one input. -/
def wholeWaysWrong : ChangeSpec := { name := "wholeWays", fn := fun _ => fun
  | [d1, d2] => { results := [.lit (.bool false)], args := [d1, d2] }
  | _ => none }
def WholeWaysWrongFalsely : Prop := wholeWaysRow.holds Tryz.pinned (OpenSpec.ofChange wholeWaysWrong)

/-- 'burgagetop.WholeMemo': WHATEVER THE INPUT: true; the input reads as it did. -/
def wholeMemoSpec : ChangeSpec := { name := "wholeMemo", fn := fun _ => fun
  | [d1, d2] => { results := [.lit (.bool true)], args := [d1, d2] }
  | _ => none }
def wholeMemoRow : OpenClaim := { program := "ytfancjmhdbaoeaagreatdoor", sum := "953d2d2f6ecf1a873cd619c24b4fcac1388fe04e2d3df20e2bdbc872c1af06ab", func := "burgage/burgagetop.WholeMemo", spec := "wholeMemo", unfollowed := true, recurses := true, named := ["burgage/level.kinds", "math/bits.deBruijn64tab"], plainKeys := false, apart := false, laid := [("math/bits.deBruijn64tab", laid_math_bits_deBruijn64tab), ("burgage/level.kinds", laid_burgage_level_kinds)] }
def WholeMemoSaid : Prop := wholeMemoRow.holds Tryz.pinned (OpenSpec.ofChange wholeMemoSpec)

/-- ITS FALSE NEIGHBOUR: 'it returns false'. Refute it at one input. -/
def wholeMemoWrong : ChangeSpec := { name := "wholeMemo", fn := fun _ => fun
  | [d1, d2] => { results := [.lit (.bool false)], args := [d1, d2] }
  | _ => none }
def WholeMemoWrongFalsely : Prop := wholeMemoRow.holds Tryz.pinned (OpenSpec.ofChange wholeMemoWrong)

/- THE SECOND FORM. 'bulk': how many values and letters a reading holds, each counted each time it is reached (what is shared counts as often as it is met; a slice's spare places count too). A statement '..UptoSaid' is the law's where the arguments, and the package variables that the reading takes, are together of bulk at most 1048576: NARROWER than '..Said'. Prove '..Said' where nothing that the law and all that it calls make is longer than what came in: it says more and counts as full. Else prove '..UptoSaid'. A law counts once. -/
mutual
def uptoBulk {H : Type} : DataW H → Nat
  | .lit (.string bytes) => bytes.length + 1
  | .lit _ => 1
  | .nil => 1
  | .ptr d => uptoBulk d + 1
  | .slice elems spare => uptoBulkAll elems + uptoBulkAll spare + 1
  | .agg parts => uptoBulkAll parts + 1
  | .iface _ d => uptoBulk d + 1
  | .map entries => uptoBulkEntries entries + 1
  | .held _ => 1
def uptoBulkAll {H : Type} : List (DataW H) → Nat
  | [] => 0
  | d :: r => uptoBulk d + uptoBulkAll r
def uptoBulkEntries {H : Type} : List (Lit × DataW H) → Nat
  | [] => 0
  | x :: r => uptoBulkEntry x + uptoBulkEntries r
def uptoBulkEntry {H : Type} : Lit × DataW H → Nat
  | (.string bytes, d) => bytes.length + uptoBulk d + 1
  | (_, d) => uptoBulk d + 1
 end
def uptoSmall : (H : Type) → List (DataW H) → Bool := fun _ ds => decide (uptoBulkAll ds ≤ 1048576)
def OpenSpec.upto (s : _root_.Go.ChangeSpec) : _root_.Go.OpenSpec := { _root_.Go.OpenSpec.ofChange s with cond := some uptoSmall }

/-- 'burgagelaw13.BruteIn', WHERE WHAT IT READS IS OF BULK AT MOST 1048576: true; the input reads as it did. -/
def bruteInUptoRow : OpenClaim := { program := "ytfancjmhdbaoeaagreatdoor", sum := "953d2d2f6ecf1a873cd619c24b4fcac1388fe04e2d3df20e2bdbc872c1af06ab", func := "burgage/burgagelaw13.BruteIn", spec := "bruteIn", unfollowed := true, recurses := true, named := ["burgage/level.kinds", "math/bits.deBruijn64tab"], plainKeys := false, apart := false, laid := [("math/bits.deBruijn64tab", laid_math_bits_deBruijn64tab), ("burgage/level.kinds", laid_burgage_level_kinds)], narrowed := true }
def BruteInUptoSaid : Prop := bruteInUptoRow.holds Tryz.pinned (OpenSpec.upto bruteInSpec)

/-- 'burgagelaw13.BruteLeast', WHERE WHAT IT READS IS OF BULK AT MOST 1048576: true; the input reads as it did. -/
def bruteLeastUptoRow : OpenClaim := { program := "ytfancjmhdbaoeaagreatdoor", sum := "953d2d2f6ecf1a873cd619c24b4fcac1388fe04e2d3df20e2bdbc872c1af06ab", func := "burgage/burgagelaw13.BruteLeast", spec := "bruteLeast", unfollowed := true, recurses := true, named := ["burgage/level.kinds", "math/bits.deBruijn64tab"], plainKeys := false, apart := false, laid := [("math/bits.deBruijn64tab", laid_math_bits_deBruijn64tab), ("burgage/level.kinds", laid_burgage_level_kinds)], narrowed := true }
def BruteLeastUptoSaid : Prop := bruteLeastUptoRow.holds Tryz.pinned (OpenSpec.upto bruteLeastSpec)

/-- 'burgagelaw13.BruteDecides', WHERE WHAT IT READS IS OF BULK AT MOST 1048576: true; the input reads as it did. -/
def bruteDecidesUptoRow : OpenClaim := { program := "ytfancjmhdbaoeaagreatdoor", sum := "953d2d2f6ecf1a873cd619c24b4fcac1388fe04e2d3df20e2bdbc872c1af06ab", func := "burgage/burgagelaw13.BruteDecides", spec := "bruteDecides", unfollowed := true, recurses := true, named := ["burgage/level.kinds", "math/bits.deBruijn64tab"], plainKeys := false, apart := false, laid := [("math/bits.deBruijn64tab", laid_math_bits_deBruijn64tab), ("burgage/level.kinds", laid_burgage_level_kinds)], narrowed := true }
def BruteDecidesUptoSaid : Prop := bruteDecidesUptoRow.holds Tryz.pinned (OpenSpec.upto bruteDecidesSpec)

/-- 'burgagelaw14.PlaceTries', WHERE WHAT IT READS IS OF BULK AT MOST 1048576: true; the input reads as it did. -/
def placeTriesUptoRow : OpenClaim := { program := "ytfancjmhdbaoeaagreatdoor", sum := "953d2d2f6ecf1a873cd619c24b4fcac1388fe04e2d3df20e2bdbc872c1af06ab", func := "burgage/burgagelaw14.PlaceTries", spec := "placeTries", unfollowed := true, recurses := true, named := ["math/bits.deBruijn64tab"], plainKeys := false, apart := false, laid := [("math/bits.deBruijn64tab", laid_math_bits_deBruijn64tab)], narrowed := true }
def PlaceTriesUptoSaid : Prop := placeTriesUptoRow.holds Tryz.pinned (OpenSpec.upto placeTriesSpec)

/-- 'burgagetop.WholeWays', WHERE WHAT IT READS IS OF BULK AT MOST 1048576: true; the input reads as it did. -/
def wholeWaysUptoRow : OpenClaim := { program := "ytfancjmhdbaoeaagreatdoor", sum := "953d2d2f6ecf1a873cd619c24b4fcac1388fe04e2d3df20e2bdbc872c1af06ab", func := "burgage/burgagetop.WholeWays", spec := "wholeWays", unfollowed := true, recurses := true, named := ["burgage/level.kinds", "math/bits.deBruijn64tab"], plainKeys := false, apart := false, laid := [("math/bits.deBruijn64tab", laid_math_bits_deBruijn64tab), ("burgage/level.kinds", laid_burgage_level_kinds)], narrowed := true }
def WholeWaysUptoSaid : Prop := wholeWaysUptoRow.holds Tryz.pinned (OpenSpec.upto wholeWaysSpec)

/-- 'burgagetop.WholeMemo', WHERE WHAT IT READS IS OF BULK AT MOST 1048576: true; the input reads as it did. -/
def wholeMemoUptoRow : OpenClaim := { program := "ytfancjmhdbaoeaagreatdoor", sum := "953d2d2f6ecf1a873cd619c24b4fcac1388fe04e2d3df20e2bdbc872c1af06ab", func := "burgage/burgagetop.WholeMemo", spec := "wholeMemo", unfollowed := true, recurses := true, named := ["burgage/level.kinds", "math/bits.deBruijn64tab"], plainKeys := false, apart := false, laid := [("math/bits.deBruijn64tab", laid_math_bits_deBruijn64tab), ("burgage/level.kinds", laid_burgage_level_kinds)], narrowed := true }
def WholeMemoUptoSaid : Prop := wholeMemoUptoRow.holds Tryz.pinned (OpenSpec.upto wholeMemoSpec)

end Rows
end Go.Proofs.YtfancjmhdbaoeaaGreatDoor
