/-
  NARROWER THAN 'FOR EVERY INPUT', by the rows' own cells (each row's printed sentence says how): LevelNames: laid · LevelCloses: laid · TableImplies: laid · TableRows: laid · TableOrder: laid · WholeTable: laid.
  DERIVED. THE GIVEN ROWS OF THIS SEAT. 6 by the template 'for every input the law returns true; each argument reads behind the call as it read before'; 0 by the template 'total and deterministic' (their statements: YtecofmcfniicoaaDoorTotals.lean).
  GIVEN WITH THE SEED: the statements are not yours to turn. If you find one false, say at which input.
  Laid BY PROGRAM, IN A SANDBOX (cutbox-rows.mjs): the forced cells as the released guide's own fill.sh prints them over the translation 2c09f0bb742cd20a… (all of the seat's roots in one cut). By AI agents, Wed Nov 11 2026. No macro, syntax, notation, axiom, sorry.
-/
import Derived.Test.YtecofmcfniicoaaDoorChecked
import GoSem.Claim
import GoSem.ClaimJoined
import GoSem.ClaimMapViews
import Derived.JoinedTies
import Derived.KernelRfl
namespace Go.Proofs.YtecofmcfniicoaaDoor
/- THE CELL 'sum', in the pinned program and in every row, IS THE sha256 OF THE DUMP (.gsa) THAT YtecofmcfniicoaaDoorProg.lean LOADS. Nothing in Lean hashes anything: it is a label: what it is worth is what the hold of that sum in a sandbox is worth. -/
noncomputable def Tryd.pinned : Pinned := { name := "ytecofmcfniicoaadoor", sum := "2c09f0bb742cd20aa6c3fef7255eefcec76a74be2ec54804ea3512ba16c366aa", checked := Tryd.checked }
namespace Rows
def none {H : Type} : Left H := { results := [], args := [] }

/- WHAT THE LISTED PACKAGE-LEVEL VARIABLES READ AS WHEN THE CALL BEGINS. Each datum BY PROGRAM (the guide's laid-datum.mjs) off the statement by which the dump's own 'gosem.cut.vars' lays the variable. In a bare row this is a premise. The card (YtecofmcfniicoaaDoorCards.lean) ties it to the program's text. -/
def laid_burgage_level_kinds {H : Type} : DataW H := .agg [.agg [.lit (.string [114, 101, 97, 100, 45, 97, 116, 111, 109, 105, 99]), .lit (.int .i64 0)], .agg [.lit (.string [115, 101, 115, 115, 105, 111, 110, 45, 97, 116, 111, 109, 105, 99]), .lit (.int .i64 1)], .agg [.lit (.string [99, 97, 117, 115, 97, 108]), .lit (.int .i64 3)], .agg [.lit (.string [117, 112, 100, 97, 116, 101]), .lit (.int .i64 9)], .agg [.lit (.string [112, 114, 101, 102, 105, 120]), .lit (.int .i64 5)], .agg [.lit (.string [112, 97, 114, 97, 108, 108, 101, 108]), .lit (.int .i64 11)], .agg [.lit (.string [115, 110, 97, 112, 115, 104, 111, 116]), .lit (.int .i64 13)], .agg [.lit (.string [115, 101, 114, 105, 97, 108]), .lit (.int .i64 17)], .agg [.lit (.string [116, 105, 109, 101, 45, 99, 97, 117, 115, 97, 108]), .lit (.int .i64 34)], .agg [.lit (.string [116, 105, 109, 101, 45, 112, 114, 101, 102, 105, 120]), .lit (.int .i64 36)], .agg [.lit (.string [116, 105, 109, 101, 45, 115, 110, 97, 112, 115, 104, 111, 116]), .lit (.int .i64 44)], .agg [.lit (.string [115, 116, 114, 105, 99, 116]), .lit (.int .i64 48)]]

/-- 'burgagelaw09.LevelNames': WHATEVER THE INPUT: true; the input reads as it did. -/
def levelNamesSpec : ChangeSpec := { name := "levelNames", fn := fun _ => fun
  | [d1, d2] => { results := [.lit (.bool true)], args := [d1, d2] }
  | _ => none }
def levelNamesRow : OpenClaim := { program := "ytecofmcfniicoaadoor", sum := "2c09f0bb742cd20aa6c3fef7255eefcec76a74be2ec54804ea3512ba16c366aa", func := "burgage/burgagelaw09.LevelNames", spec := "levelNames", named := ["burgage/level.kinds"], apart := false, laid := [("burgage/level.kinds", laid_burgage_level_kinds)] }
def LevelNamesSaid : Prop := levelNamesRow.holds Tryd.pinned (OpenSpec.ofChange levelNamesSpec)

/-- ITS FALSE NEIGHBOUR: 'it returns false'. Refute it at one input. -/
def levelNamesWrong : ChangeSpec := { name := "levelNames", fn := fun _ => fun
  | [d1, d2] => { results := [.lit (.bool false)], args := [d1, d2] }
  | _ => none }
def LevelNamesWrongFalsely : Prop := levelNamesRow.holds Tryd.pinned (OpenSpec.ofChange levelNamesWrong)

/-- 'burgagelaw09.LevelCloses': WHATEVER THE INPUT: true; the input reads as it did. -/
def levelClosesSpec : ChangeSpec := { name := "levelCloses", fn := fun _ => fun
  | [d1, d2] => { results := [.lit (.bool true)], args := [d1, d2] }
  | _ => none }
def levelClosesRow : OpenClaim := { program := "ytecofmcfniicoaadoor", sum := "2c09f0bb742cd20aa6c3fef7255eefcec76a74be2ec54804ea3512ba16c366aa", func := "burgage/burgagelaw09.LevelCloses", spec := "levelCloses", named := ["burgage/level.kinds"], apart := false, laid := [("burgage/level.kinds", laid_burgage_level_kinds)] }
def LevelClosesSaid : Prop := levelClosesRow.holds Tryd.pinned (OpenSpec.ofChange levelClosesSpec)

/-- ITS FALSE NEIGHBOUR: 'it returns false'. Refute it at one input. -/
def levelClosesWrong : ChangeSpec := { name := "levelCloses", fn := fun _ => fun
  | [d1, d2] => { results := [.lit (.bool false)], args := [d1, d2] }
  | _ => none }
def LevelClosesWrongFalsely : Prop := levelClosesRow.holds Tryd.pinned (OpenSpec.ofChange levelClosesWrong)

/-- 'burgagelaw10.TableImplies': WHATEVER THE INPUT: true; the input reads as it did. -/
def tableImpliesSpec : ChangeSpec := { name := "tableImplies", fn := fun _ => fun
  | [d1, d2] => { results := [.lit (.bool true)], args := [d1, d2] }
  | _ => none }
def tableImpliesRow : OpenClaim := { program := "ytecofmcfniicoaadoor", sum := "2c09f0bb742cd20aa6c3fef7255eefcec76a74be2ec54804ea3512ba16c366aa", func := "burgage/burgagelaw10.TableImplies", spec := "tableImplies", named := ["burgage/level.kinds"], apart := false, laid := [("burgage/level.kinds", laid_burgage_level_kinds)] }
def TableImpliesSaid : Prop := tableImpliesRow.holds Tryd.pinned (OpenSpec.ofChange tableImpliesSpec)

/-- ITS FALSE NEIGHBOUR: 'it returns false'. Refute it at one input. -/
def tableImpliesWrong : ChangeSpec := { name := "tableImplies", fn := fun _ => fun
  | [d1, d2] => { results := [.lit (.bool false)], args := [d1, d2] }
  | _ => none }
def TableImpliesWrongFalsely : Prop := tableImpliesRow.holds Tryd.pinned (OpenSpec.ofChange tableImpliesWrong)

/-- 'burgagelaw10.TableRows': WHATEVER THE INPUT: true; the input reads as it did. -/
def tableRowsSpec : ChangeSpec := { name := "tableRows", fn := fun _ => fun
  | [d] => { results := [.lit (.bool true)], args := [d] }
  | _ => none }
def tableRowsRow : OpenClaim := { program := "ytecofmcfniicoaadoor", sum := "2c09f0bb742cd20aa6c3fef7255eefcec76a74be2ec54804ea3512ba16c366aa", func := "burgage/burgagelaw10.TableRows", spec := "tableRows", named := ["burgage/level.kinds"], apart := false, laid := [("burgage/level.kinds", laid_burgage_level_kinds)] }
def TableRowsSaid : Prop := tableRowsRow.holds Tryd.pinned (OpenSpec.ofChange tableRowsSpec)

/-- ITS FALSE NEIGHBOUR: 'it returns false'. Refute it at one input. -/
def tableRowsWrong : ChangeSpec := { name := "tableRows", fn := fun _ => fun
  | [d] => { results := [.lit (.bool false)], args := [d] }
  | _ => none }
def TableRowsWrongFalsely : Prop := tableRowsRow.holds Tryd.pinned (OpenSpec.ofChange tableRowsWrong)

/-- 'burgagelaw10.TableOrder': WHATEVER THE INPUT: true; the input reads as it did. -/
def tableOrderSpec : ChangeSpec := { name := "tableOrder", fn := fun _ => fun
  | [d1, d2, d3] => { results := [.lit (.bool true)], args := [d1, d2, d3] }
  | _ => none }
def tableOrderRow : OpenClaim := { program := "ytecofmcfniicoaadoor", sum := "2c09f0bb742cd20aa6c3fef7255eefcec76a74be2ec54804ea3512ba16c366aa", func := "burgage/burgagelaw10.TableOrder", spec := "tableOrder", named := ["burgage/level.kinds"], apart := false, laid := [("burgage/level.kinds", laid_burgage_level_kinds)] }
def TableOrderSaid : Prop := tableOrderRow.holds Tryd.pinned (OpenSpec.ofChange tableOrderSpec)

/-- ITS FALSE NEIGHBOUR: 'it returns false'. Refute it at one input. -/
def tableOrderWrong : ChangeSpec := { name := "tableOrder", fn := fun _ => fun
  | [d1, d2, d3] => { results := [.lit (.bool false)], args := [d1, d2, d3] }
  | _ => none }
def TableOrderWrongFalsely : Prop := tableOrderRow.holds Tryd.pinned (OpenSpec.ofChange tableOrderWrong)

/-- 'burgagetop.WholeTable': WHATEVER THE INPUT: true; the input reads as it did. -/
def wholeTableSpec : ChangeSpec := { name := "wholeTable", fn := fun _ => fun
  | [d1, d2] => { results := [.lit (.bool true)], args := [d1, d2] }
  | _ => none }
def wholeTableRow : OpenClaim := { program := "ytecofmcfniicoaadoor", sum := "2c09f0bb742cd20aa6c3fef7255eefcec76a74be2ec54804ea3512ba16c366aa", func := "burgage/burgagetop.WholeTable", spec := "wholeTable", named := ["burgage/level.kinds"], apart := false, laid := [("burgage/level.kinds", laid_burgage_level_kinds)] }
def WholeTableSaid : Prop := wholeTableRow.holds Tryd.pinned (OpenSpec.ofChange wholeTableSpec)

/-- ITS FALSE NEIGHBOUR: 'it returns false'. Refute it at one input. -/
def wholeTableWrong : ChangeSpec := { name := "wholeTable", fn := fun _ => fun
  | [d1, d2] => { results := [.lit (.bool false)], args := [d1, d2] }
  | _ => none }
def WholeTableWrongFalsely : Prop := wholeTableRow.holds Tryd.pinned (OpenSpec.ofChange wholeTableWrong)

/- THE SECOND FORM. 'bulk': how many values and letters a reading holds, each counted each time it is reached (what is shared counts as often as it is met; a slice's spare places count too). A statement '..UptoSaid' is the law's where the arguments, and the package variables that the reading takes, are together of bulk at most 1048576: NARROWER than '..Said'. Prove '..Said' where nothing that the law and all that it calls make is longer than what came in: it says more and counts as full. Else prove '..UptoSaid'. A law counts once. -/
mutual
def uptoBulk {H : Type} : DataW H → Nat
  | .lit (.string bytes) => bytes.length + 1
  | .lit _ => 1
  | .nil => 1
  | .ptr d => uptoBulk d + 1
  | .slice elems spare => uptoBulkAll elems + uptoBulkAll spare + 1
  | .agg parts => uptoBulkAll parts + 1
  | .iface _ d => uptoBulk d + 1
  | .map entries => uptoBulkEntries entries + 1
  | .held _ => 1
def uptoBulkAll {H : Type} : List (DataW H) → Nat
  | [] => 0
  | d :: r => uptoBulk d + uptoBulkAll r
def uptoBulkEntries {H : Type} : List (Lit × DataW H) → Nat
  | [] => 0
  | x :: r => uptoBulkEntry x + uptoBulkEntries r
def uptoBulkEntry {H : Type} : Lit × DataW H → Nat
  | (.string bytes, d) => bytes.length + uptoBulk d + 1
  | (_, d) => uptoBulk d + 1
 end
def uptoSmall : (H : Type) → List (DataW H) → Bool := fun _ ds => decide (uptoBulkAll ds ≤ 1048576)
def OpenSpec.upto (s : _root_.Go.ChangeSpec) : _root_.Go.OpenSpec := { _root_.Go.OpenSpec.ofChange s with cond := some uptoSmall }

/-- 'burgagelaw09.LevelNames', WHERE WHAT IT READS IS OF BULK AT MOST 1048576: true; the input reads as it did. -/
def levelNamesUptoRow : OpenClaim := { program := "ytecofmcfniicoaadoor", sum := "2c09f0bb742cd20aa6c3fef7255eefcec76a74be2ec54804ea3512ba16c366aa", func := "burgage/burgagelaw09.LevelNames", spec := "levelNames", named := ["burgage/level.kinds"], apart := false, laid := [("burgage/level.kinds", laid_burgage_level_kinds)], narrowed := true }
def LevelNamesUptoSaid : Prop := levelNamesUptoRow.holds Tryd.pinned (OpenSpec.upto levelNamesSpec)

/-- 'burgagelaw09.LevelCloses', WHERE WHAT IT READS IS OF BULK AT MOST 1048576: true; the input reads as it did. -/
def levelClosesUptoRow : OpenClaim := { program := "ytecofmcfniicoaadoor", sum := "2c09f0bb742cd20aa6c3fef7255eefcec76a74be2ec54804ea3512ba16c366aa", func := "burgage/burgagelaw09.LevelCloses", spec := "levelCloses", named := ["burgage/level.kinds"], apart := false, laid := [("burgage/level.kinds", laid_burgage_level_kinds)], narrowed := true }
def LevelClosesUptoSaid : Prop := levelClosesUptoRow.holds Tryd.pinned (OpenSpec.upto levelClosesSpec)

/-- 'burgagelaw10.TableImplies', WHERE WHAT IT READS IS OF BULK AT MOST 1048576: true; the input reads as it did. -/
def tableImpliesUptoRow : OpenClaim := { program := "ytecofmcfniicoaadoor", sum := "2c09f0bb742cd20aa6c3fef7255eefcec76a74be2ec54804ea3512ba16c366aa", func := "burgage/burgagelaw10.TableImplies", spec := "tableImplies", named := ["burgage/level.kinds"], apart := false, laid := [("burgage/level.kinds", laid_burgage_level_kinds)], narrowed := true }
def TableImpliesUptoSaid : Prop := tableImpliesUptoRow.holds Tryd.pinned (OpenSpec.upto tableImpliesSpec)

/-- 'burgagelaw10.TableRows', WHERE WHAT IT READS IS OF BULK AT MOST 1048576: true; the input reads as it did. -/
def tableRowsUptoRow : OpenClaim := { program := "ytecofmcfniicoaadoor", sum := "2c09f0bb742cd20aa6c3fef7255eefcec76a74be2ec54804ea3512ba16c366aa", func := "burgage/burgagelaw10.TableRows", spec := "tableRows", named := ["burgage/level.kinds"], apart := false, laid := [("burgage/level.kinds", laid_burgage_level_kinds)], narrowed := true }
def TableRowsUptoSaid : Prop := tableRowsUptoRow.holds Tryd.pinned (OpenSpec.upto tableRowsSpec)

/-- 'burgagelaw10.TableOrder', WHERE WHAT IT READS IS OF BULK AT MOST 1048576: true; the input reads as it did. -/
def tableOrderUptoRow : OpenClaim := { program := "ytecofmcfniicoaadoor", sum := "2c09f0bb742cd20aa6c3fef7255eefcec76a74be2ec54804ea3512ba16c366aa", func := "burgage/burgagelaw10.TableOrder", spec := "tableOrder", named := ["burgage/level.kinds"], apart := false, laid := [("burgage/level.kinds", laid_burgage_level_kinds)], narrowed := true }
def TableOrderUptoSaid : Prop := tableOrderUptoRow.holds Tryd.pinned (OpenSpec.upto tableOrderSpec)

/-- 'burgagetop.WholeTable', WHERE WHAT IT READS IS OF BULK AT MOST 1048576: true; the input reads as it did. -/
def wholeTableUptoRow : OpenClaim := { program := "ytecofmcfniicoaadoor", sum := "2c09f0bb742cd20aa6c3fef7255eefcec76a74be2ec54804ea3512ba16c366aa", func := "burgage/burgagetop.WholeTable", spec := "wholeTable", named := ["burgage/level.kinds"], apart := false, laid := [("burgage/level.kinds", laid_burgage_level_kinds)], narrowed := true }
def WholeTableUptoSaid : Prop := wholeTableUptoRow.holds Tryd.pinned (OpenSpec.upto wholeTableSpec)

end Rows
end Go.Proofs.YtecofmcfniicoaaDoor
