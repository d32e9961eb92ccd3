/-
  NARROWER THAN 'FOR EVERY INPUT', by the rows' own cells (each row's printed sentence says how): LatticePlaces: laid · LatticeBack: laid.
  DERIVED. THE GIVEN ROWS OF THIS SEAT. 2 by the template 'for every input the law returns true; each argument reads behind the call as it read before'; 0 by the template 'total and deterministic' (their statements: YtadihdkpoeibhaaDoorTotals.lean).
  GIVEN WITH THE SEED: the statements are not yours to turn. If you find one false, say at which input.
  Laid BY PROGRAM, IN A SANDBOX (cutbox-rows.mjs): the forced cells as the released guide's own fill.sh prints them over the translation 73a3c1f43e9b8533… (all of the seat's roots in one cut). By AI agents, Wed Nov 11 2026. No macro, syntax, notation, axiom, sorry.
-/
import Derived.Test.YtadihdkpoeibhaaDoorChecked
import GoSem.Claim
import GoSem.ClaimJoined
import GoSem.ClaimMapViews
import Derived.JoinedTies
import Derived.KernelRfl
namespace Go.Proofs.YtadihdkpoeibhaaDoor
/- THE CELL 'sum', in the pinned program and in every row, IS THE sha256 OF THE DUMP (.gsa) THAT YtadihdkpoeibhaaDoorProg.lean LOADS. Nothing in Lean hashes anything: it is a label: what it is worth is what the hold of that sum in a sandbox is worth. -/
noncomputable def Tryd.pinned : Pinned := { name := "ytadihdkpoeibhaadoor", sum := "73a3c1f43e9b853351946eb66e2e2f7f884fb8b9188cb104a421b6aac36b470a", checked := Tryd.checked }
namespace Rows
def none {H : Type} : Left H := { results := [], args := [] }

/- WHAT THE LISTED PACKAGE-LEVEL VARIABLES READ AS WHEN THE CALL BEGINS. Each datum BY PROGRAM (the guide's laid-datum.mjs) off the statement by which the dump's own 'gosem.cut.vars' lays the variable. In a bare row this is a premise. The card (YtadihdkpoeibhaaDoorCards.lean) ties it to the program's text. -/
def laid_burgage_level_kinds {H : Type} : DataW H := .agg [.agg [.lit (.string [114, 101, 97, 100, 45, 97, 116, 111, 109, 105, 99]), .lit (.int .i64 0)], .agg [.lit (.string [115, 101, 115, 115, 105, 111, 110, 45, 97, 116, 111, 109, 105, 99]), .lit (.int .i64 1)], .agg [.lit (.string [99, 97, 117, 115, 97, 108]), .lit (.int .i64 3)], .agg [.lit (.string [117, 112, 100, 97, 116, 101]), .lit (.int .i64 9)], .agg [.lit (.string [112, 114, 101, 102, 105, 120]), .lit (.int .i64 5)], .agg [.lit (.string [112, 97, 114, 97, 108, 108, 101, 108]), .lit (.int .i64 11)], .agg [.lit (.string [115, 110, 97, 112, 115, 104, 111, 116]), .lit (.int .i64 13)], .agg [.lit (.string [115, 101, 114, 105, 97, 108]), .lit (.int .i64 17)], .agg [.lit (.string [116, 105, 109, 101, 45, 99, 97, 117, 115, 97, 108]), .lit (.int .i64 34)], .agg [.lit (.string [116, 105, 109, 101, 45, 112, 114, 101, 102, 105, 120]), .lit (.int .i64 36)], .agg [.lit (.string [116, 105, 109, 101, 45, 115, 110, 97, 112, 115, 104, 111, 116]), .lit (.int .i64 44)], .agg [.lit (.string [115, 116, 114, 105, 99, 116]), .lit (.int .i64 48)]]

/-- 'burgagelaw19.LatticePlaces': WHATEVER THE INPUT: true; the input reads as it did. -/
def latticePlacesSpec : ChangeSpec := { name := "latticePlaces", fn := fun _ => fun
  | [d] => { results := [.lit (.bool true)], args := [d] }
  | _ => none }
def latticePlacesRow : OpenClaim := { program := "ytadihdkpoeibhaadoor", sum := "73a3c1f43e9b853351946eb66e2e2f7f884fb8b9188cb104a421b6aac36b470a", func := "burgage/burgagelaw19.LatticePlaces", spec := "latticePlaces", inPlace := ["internal/abi.NoEscape", "internal/bytealg.MakeNoZero"], named := ["burgage/level.kinds"], apart := false, laid := [("burgage/level.kinds", laid_burgage_level_kinds)] }
def LatticePlacesSaid : Prop := latticePlacesRow.holds Tryd.pinned (OpenSpec.ofChange latticePlacesSpec)

/-- ITS FALSE NEIGHBOUR: 'it returns false'. Refute it at one input. -/
def latticePlacesWrong : ChangeSpec := { name := "latticePlaces", fn := fun _ => fun
  | [d] => { results := [.lit (.bool false)], args := [d] }
  | _ => none }
def LatticePlacesWrongFalsely : Prop := latticePlacesRow.holds Tryd.pinned (OpenSpec.ofChange latticePlacesWrong)

/-- 'burgagelaw19.LatticeBack': WHATEVER THE INPUT: true; the input reads as it did. -/
def latticeBackSpec : ChangeSpec := { name := "latticeBack", fn := fun _ => fun
  | [d] => { results := [.lit (.bool true)], args := [d] }
  | _ => none }
def latticeBackRow : OpenClaim := { program := "ytadihdkpoeibhaadoor", sum := "73a3c1f43e9b853351946eb66e2e2f7f884fb8b9188cb104a421b6aac36b470a", func := "burgage/burgagelaw19.LatticeBack", spec := "latticeBack", inPlace := ["internal/abi.NoEscape", "internal/bytealg.MakeNoZero"], named := ["burgage/level.kinds"], apart := false, laid := [("burgage/level.kinds", laid_burgage_level_kinds)] }
def LatticeBackSaid : Prop := latticeBackRow.holds Tryd.pinned (OpenSpec.ofChange latticeBackSpec)

/-- ITS FALSE NEIGHBOUR: 'it returns false'. Refute it at one input. -/
def latticeBackWrong : ChangeSpec := { name := "latticeBack", fn := fun _ => fun
  | [d] => { results := [.lit (.bool false)], args := [d] }
  | _ => none }
def LatticeBackWrongFalsely : Prop := latticeBackRow.holds Tryd.pinned (OpenSpec.ofChange latticeBackWrong)

/- THE SECOND FORM. 'bulk': how many values and letters a reading holds, each counted each time it is reached (what is shared counts as often as it is met; a slice's spare places count too). A statement '..UptoSaid' is the law's where the arguments, and the package variables that the reading takes, are together of bulk at most 1048576: NARROWER than '..Said'. Prove '..Said' where nothing that the law and all that it calls make is longer than what came in: it says more and counts as full. Else prove '..UptoSaid'. A law counts once. -/
mutual
def uptoBulk {H : Type} : DataW H → Nat
  | .lit (.string bytes) => bytes.length + 1
  | .lit _ => 1
  | .nil => 1
  | .ptr d => uptoBulk d + 1
  | .slice elems spare => uptoBulkAll elems + uptoBulkAll spare + 1
  | .agg parts => uptoBulkAll parts + 1
  | .iface _ d => uptoBulk d + 1
  | .map entries => uptoBulkEntries entries + 1
  | .held _ => 1
def uptoBulkAll {H : Type} : List (DataW H) → Nat
  | [] => 0
  | d :: r => uptoBulk d + uptoBulkAll r
def uptoBulkEntries {H : Type} : List (Lit × DataW H) → Nat
  | [] => 0
  | x :: r => uptoBulkEntry x + uptoBulkEntries r
def uptoBulkEntry {H : Type} : Lit × DataW H → Nat
  | (.string bytes, d) => bytes.length + uptoBulk d + 1
  | (_, d) => uptoBulk d + 1
 end
def uptoSmall : (H : Type) → List (DataW H) → Bool := fun _ ds => decide (uptoBulkAll ds ≤ 1048576)
def OpenSpec.upto (s : _root_.Go.ChangeSpec) : _root_.Go.OpenSpec := { _root_.Go.OpenSpec.ofChange s with cond := some uptoSmall }

/-- 'burgagelaw19.LatticePlaces', WHERE WHAT IT READS IS OF BULK AT MOST 1048576: true; the input reads as it did. -/
def latticePlacesUptoRow : OpenClaim := { program := "ytadihdkpoeibhaadoor", sum := "73a3c1f43e9b853351946eb66e2e2f7f884fb8b9188cb104a421b6aac36b470a", func := "burgage/burgagelaw19.LatticePlaces", spec := "latticePlaces", inPlace := ["internal/abi.NoEscape", "internal/bytealg.MakeNoZero"], named := ["burgage/level.kinds"], apart := false, laid := [("burgage/level.kinds", laid_burgage_level_kinds)], narrowed := true }
def LatticePlacesUptoSaid : Prop := latticePlacesUptoRow.holds Tryd.pinned (OpenSpec.upto latticePlacesSpec)

/-- 'burgagelaw19.LatticeBack', WHERE WHAT IT READS IS OF BULK AT MOST 1048576: true; the input reads as it did. -/
def latticeBackUptoRow : OpenClaim := { program := "ytadihdkpoeibhaadoor", sum := "73a3c1f43e9b853351946eb66e2e2f7f884fb8b9188cb104a421b6aac36b470a", func := "burgage/burgagelaw19.LatticeBack", spec := "latticeBack", inPlace := ["internal/abi.NoEscape", "internal/bytealg.MakeNoZero"], named := ["burgage/level.kinds"], apart := false, laid := [("burgage/level.kinds", laid_burgage_level_kinds)], narrowed := true }
def LatticeBackUptoSaid : Prop := latticeBackUptoRow.holds Tryd.pinned (OpenSpec.upto latticeBackSpec)

end Rows
end Go.Proofs.YtadihdkpoeibhaaDoor
