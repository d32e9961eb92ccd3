/-
  NARROWER THAN 'FOR EVERY INPUT', by the rows' own cells (each row's printed sentence says how): SetParts: laid · SetLists: laid · SetBack: laid · RelParts: laid · RelSorts: laid · RelCycles: laid · RelChains: laid · WholeSteps: laid.
  DERIVED. THE GIVEN ROWS OF THIS SEAT. 8 by the template 'for every input the law returns true; each argument reads behind the call as it read before'; 0 by the template 'total and deterministic' (their statements: YtjlhclmplmkhaaaDoorTotals.lean).
  GIVEN WITH THE SEED: the statements are not yours to turn. If you find one false, say at which input.
  Laid BY PROGRAM, IN A SANDBOX (cutbox-rows.mjs): the forced cells as the released guide's own fill.sh prints them over the translation caa1eeb7b38f79b2… (all of the seat's roots in one cut). By AI agents, Wed Nov 11 2026. No macro, syntax, notation, axiom, sorry.
-/
import Derived.Test.YtjlhclmplmkhaaaDoorChecked
import GoSem.Claim
import GoSem.ClaimJoined
import GoSem.ClaimMapViews
import Derived.JoinedTies
import Derived.KernelRfl
namespace Go.Proofs.YtjlhclmplmkhaaaDoor
/- THE CELL 'sum', in the pinned program and in every row, IS THE sha256 OF THE DUMP (.gsa) THAT YtjlhclmplmkhaaaDoorProg.lean LOADS. Nothing in Lean hashes anything: it is a label: what it is worth is what the hold of that sum in a sandbox is worth. -/
noncomputable def Tryd.pinned : Pinned := { name := "ytjlhclmplmkhaaadoor", sum := "caa1eeb7b38f79b2697cd0e210cd757998fb498fb6c5bff6b6640f353aea1a6d", checked := Tryd.checked }
namespace Rows
def none {H : Type} : Left H := { results := [], args := [] }

/- WHAT THE LISTED PACKAGE-LEVEL VARIABLES READ AS WHEN THE CALL BEGINS. Each datum BY PROGRAM (the guide's laid-datum.mjs) off the statement by which the dump's own 'gosem.cut.vars' lays the variable. In a bare row this is a premise. The card (YtjlhclmplmkhaaaDoorCards.lean) ties it to the program's text. -/
def laid_math_bits_deBruijn64tab {H : Type} : DataW H := .agg [.lit (.int .u8 0), .lit (.int .u8 1), .lit (.int .u8 56), .lit (.int .u8 2), .lit (.int .u8 57), .lit (.int .u8 49), .lit (.int .u8 28), .lit (.int .u8 3), .lit (.int .u8 61), .lit (.int .u8 58), .lit (.int .u8 42), .lit (.int .u8 50), .lit (.int .u8 38), .lit (.int .u8 29), .lit (.int .u8 17), .lit (.int .u8 4), .lit (.int .u8 62), .lit (.int .u8 47), .lit (.int .u8 59), .lit (.int .u8 36), .lit (.int .u8 45), .lit (.int .u8 43), .lit (.int .u8 51), .lit (.int .u8 22), .lit (.int .u8 53), .lit (.int .u8 39), .lit (.int .u8 33), .lit (.int .u8 30), .lit (.int .u8 24), .lit (.int .u8 18), .lit (.int .u8 12), .lit (.int .u8 5), .lit (.int .u8 63), .lit (.int .u8 55), .lit (.int .u8 48), .lit (.int .u8 27), .lit (.int .u8 60), .lit (.int .u8 41), .lit (.int .u8 37), .lit (.int .u8 16), .lit (.int .u8 46), .lit (.int .u8 35), .lit (.int .u8 44), .lit (.int .u8 21), .lit (.int .u8 52), .lit (.int .u8 32), .lit (.int .u8 23), .lit (.int .u8 11), .lit (.int .u8 54), .lit (.int .u8 26), .lit (.int .u8 40), .lit (.int .u8 15), .lit (.int .u8 34), .lit (.int .u8 20), .lit (.int .u8 31), .lit (.int .u8 10), .lit (.int .u8 25), .lit (.int .u8 14), .lit (.int .u8 19), .lit (.int .u8 9), .lit (.int .u8 13), .lit (.int .u8 8), .lit (.int .u8 7), .lit (.int .u8 6)]

/-- 'burgagelaw01.SetParts': WHATEVER THE INPUT: true; the input reads as it did. -/
def setPartsSpec : ChangeSpec := { name := "setParts", fn := fun _ => fun
  | [d1, d2] => { results := [.lit (.bool true)], args := [d1, d2] }
  | _ => none }
def setPartsRow : OpenClaim := { program := "ytjlhclmplmkhaaadoor", sum := "caa1eeb7b38f79b2697cd0e210cd757998fb498fb6c5bff6b6640f353aea1a6d", func := "burgage/burgagelaw01.SetParts", spec := "setParts", named := ["math/bits.deBruijn64tab"], apart := false, laid := [("math/bits.deBruijn64tab", laid_math_bits_deBruijn64tab)] }
def SetPartsSaid : Prop := setPartsRow.holds Tryd.pinned (OpenSpec.ofChange setPartsSpec)

/-- ITS FALSE NEIGHBOUR: 'it returns false'. Refute it at one input. -/
def setPartsWrong : ChangeSpec := { name := "setParts", fn := fun _ => fun
  | [d1, d2] => { results := [.lit (.bool false)], args := [d1, d2] }
  | _ => none }
def SetPartsWrongFalsely : Prop := setPartsRow.holds Tryd.pinned (OpenSpec.ofChange setPartsWrong)

/-- 'burgagelaw01.SetLists': WHATEVER THE INPUT: true; the input reads as it did. -/
def setListsSpec : ChangeSpec := { name := "setLists", fn := fun _ => fun
  | [d1, d2, d3] => { results := [.lit (.bool true)], args := [d1, d2, d3] }
  | _ => none }
def setListsRow : OpenClaim := { program := "ytjlhclmplmkhaaadoor", sum := "caa1eeb7b38f79b2697cd0e210cd757998fb498fb6c5bff6b6640f353aea1a6d", func := "burgage/burgagelaw01.SetLists", spec := "setLists", named := ["math/bits.deBruijn64tab"], apart := false, laid := [("math/bits.deBruijn64tab", laid_math_bits_deBruijn64tab)] }
def SetListsSaid : Prop := setListsRow.holds Tryd.pinned (OpenSpec.ofChange setListsSpec)

/-- ITS FALSE NEIGHBOUR: 'it returns false'. Refute it at one input. -/
def setListsWrong : ChangeSpec := { name := "setLists", fn := fun _ => fun
  | [d1, d2, d3] => { results := [.lit (.bool false)], args := [d1, d2, d3] }
  | _ => none }
def SetListsWrongFalsely : Prop := setListsRow.holds Tryd.pinned (OpenSpec.ofChange setListsWrong)

/-- 'burgagelaw01.SetBack': WHATEVER THE INPUT: true; the input reads as it did. -/
def setBackSpec : ChangeSpec := { name := "setBack", fn := fun _ => fun
  | [d] => { results := [.lit (.bool true)], args := [d] }
  | _ => none }
def setBackRow : OpenClaim := { program := "ytjlhclmplmkhaaadoor", sum := "caa1eeb7b38f79b2697cd0e210cd757998fb498fb6c5bff6b6640f353aea1a6d", func := "burgage/burgagelaw01.SetBack", spec := "setBack", named := ["math/bits.deBruijn64tab"], apart := false, laid := [("math/bits.deBruijn64tab", laid_math_bits_deBruijn64tab)] }
def SetBackSaid : Prop := setBackRow.holds Tryd.pinned (OpenSpec.ofChange setBackSpec)

/-- ITS FALSE NEIGHBOUR: 'it returns false'. Refute it at one input. -/
def setBackWrong : ChangeSpec := { name := "setBack", fn := fun _ => fun
  | [d] => { results := [.lit (.bool false)], args := [d] }
  | _ => none }
def SetBackWrongFalsely : Prop := setBackRow.holds Tryd.pinned (OpenSpec.ofChange setBackWrong)

/-- 'burgagelaw02.RelParts': WHATEVER THE INPUT: true; the input reads as it did. -/
def relPartsSpec : ChangeSpec := { name := "relParts", fn := fun _ => fun
  | [d1, d2] => { results := [.lit (.bool true)], args := [d1, d2] }
  | _ => none }
def relPartsRow : OpenClaim := { program := "ytjlhclmplmkhaaadoor", sum := "caa1eeb7b38f79b2697cd0e210cd757998fb498fb6c5bff6b6640f353aea1a6d", func := "burgage/burgagelaw02.RelParts", spec := "relParts", named := ["math/bits.deBruijn64tab"], apart := false, laid := [("math/bits.deBruijn64tab", laid_math_bits_deBruijn64tab)] }
def RelPartsSaid : Prop := relPartsRow.holds Tryd.pinned (OpenSpec.ofChange relPartsSpec)

/-- ITS FALSE NEIGHBOUR: 'it returns false'. Refute it at one input. -/
def relPartsWrong : ChangeSpec := { name := "relParts", fn := fun _ => fun
  | [d1, d2] => { results := [.lit (.bool false)], args := [d1, d2] }
  | _ => none }
def RelPartsWrongFalsely : Prop := relPartsRow.holds Tryd.pinned (OpenSpec.ofChange relPartsWrong)

/-- 'burgagelaw02.RelSorts': WHATEVER THE INPUT: true; the input reads as it did. -/
def relSortsSpec : ChangeSpec := { name := "relSorts", fn := fun _ => fun
  | [d1, d2] => { results := [.lit (.bool true)], args := [d1, d2] }
  | _ => none }
def relSortsRow : OpenClaim := { program := "ytjlhclmplmkhaaadoor", sum := "caa1eeb7b38f79b2697cd0e210cd757998fb498fb6c5bff6b6640f353aea1a6d", func := "burgage/burgagelaw02.RelSorts", spec := "relSorts", named := ["math/bits.deBruijn64tab"], apart := false, laid := [("math/bits.deBruijn64tab", laid_math_bits_deBruijn64tab)] }
def RelSortsSaid : Prop := relSortsRow.holds Tryd.pinned (OpenSpec.ofChange relSortsSpec)

/-- ITS FALSE NEIGHBOUR: 'it returns false'. Refute it at one input. -/
def relSortsWrong : ChangeSpec := { name := "relSorts", fn := fun _ => fun
  | [d1, d2] => { results := [.lit (.bool false)], args := [d1, d2] }
  | _ => none }
def RelSortsWrongFalsely : Prop := relSortsRow.holds Tryd.pinned (OpenSpec.ofChange relSortsWrong)

/-- 'burgagelaw02.RelCycles': WHATEVER THE INPUT: true; the input reads as it did. -/
def relCyclesSpec : ChangeSpec := { name := "relCycles", fn := fun _ => fun
  | [d] => { results := [.lit (.bool true)], args := [d] }
  | _ => none }
def relCyclesRow : OpenClaim := { program := "ytjlhclmplmkhaaadoor", sum := "caa1eeb7b38f79b2697cd0e210cd757998fb498fb6c5bff6b6640f353aea1a6d", func := "burgage/burgagelaw02.RelCycles", spec := "relCycles", named := ["math/bits.deBruijn64tab"], apart := false, laid := [("math/bits.deBruijn64tab", laid_math_bits_deBruijn64tab)] }
def RelCyclesSaid : Prop := relCyclesRow.holds Tryd.pinned (OpenSpec.ofChange relCyclesSpec)

/-- ITS FALSE NEIGHBOUR: 'it returns false'. Refute it at one input. -/
def relCyclesWrong : ChangeSpec := { name := "relCycles", fn := fun _ => fun
  | [d] => { results := [.lit (.bool false)], args := [d] }
  | _ => none }
def RelCyclesWrongFalsely : Prop := relCyclesRow.holds Tryd.pinned (OpenSpec.ofChange relCyclesWrong)

/-- 'burgagelaw02.RelChains': WHATEVER THE INPUT: true; the input reads as it did. -/
def relChainsSpec : ChangeSpec := { name := "relChains", fn := fun _ => fun
  | [d] => { results := [.lit (.bool true)], args := [d] }
  | _ => none }
def relChainsRow : OpenClaim := { program := "ytjlhclmplmkhaaadoor", sum := "caa1eeb7b38f79b2697cd0e210cd757998fb498fb6c5bff6b6640f353aea1a6d", func := "burgage/burgagelaw02.RelChains", spec := "relChains", named := ["math/bits.deBruijn64tab"], apart := false, laid := [("math/bits.deBruijn64tab", laid_math_bits_deBruijn64tab)] }
def RelChainsSaid : Prop := relChainsRow.holds Tryd.pinned (OpenSpec.ofChange relChainsSpec)

/-- ITS FALSE NEIGHBOUR: 'it returns false'. Refute it at one input. -/
def relChainsWrong : ChangeSpec := { name := "relChains", fn := fun _ => fun
  | [d] => { results := [.lit (.bool false)], args := [d] }
  | _ => none }
def RelChainsWrongFalsely : Prop := relChainsRow.holds Tryd.pinned (OpenSpec.ofChange relChainsWrong)

/-- 'burgagetop.WholeSteps': WHATEVER THE INPUT: true; the input reads as it did. -/
def wholeStepsSpec : ChangeSpec := { name := "wholeSteps", fn := fun _ => fun
  | [d] => { results := [.lit (.bool true)], args := [d] }
  | _ => none }
def wholeStepsRow : OpenClaim := { program := "ytjlhclmplmkhaaadoor", sum := "caa1eeb7b38f79b2697cd0e210cd757998fb498fb6c5bff6b6640f353aea1a6d", func := "burgage/burgagetop.WholeSteps", spec := "wholeSteps", named := ["math/bits.deBruijn64tab"], apart := false, laid := [("math/bits.deBruijn64tab", laid_math_bits_deBruijn64tab)] }
def WholeStepsSaid : Prop := wholeStepsRow.holds Tryd.pinned (OpenSpec.ofChange wholeStepsSpec)

/-- ITS FALSE NEIGHBOUR: 'it returns false'. Refute it at one input. -/
def wholeStepsWrong : ChangeSpec := { name := "wholeSteps", fn := fun _ => fun
  | [d] => { results := [.lit (.bool false)], args := [d] }
  | _ => none }
def WholeStepsWrongFalsely : Prop := wholeStepsRow.holds Tryd.pinned (OpenSpec.ofChange wholeStepsWrong)

/- THE SECOND FORM. 'bulk': how many values and letters a reading holds, each counted each time it is reached (what is shared counts as often as it is met; a slice's spare places count too). A statement '..UptoSaid' is the law's where the arguments, and the package variables that the reading takes, are together of bulk at most 1048576: NARROWER than '..Said'. Prove '..Said' where nothing that the law and all that it calls make is longer than what came in: it says more and counts as full. Else prove '..UptoSaid'. A law counts once. -/
mutual
def uptoBulk {H : Type} : DataW H → Nat
  | .lit (.string bytes) => bytes.length + 1
  | .lit _ => 1
  | .nil => 1
  | .ptr d => uptoBulk d + 1
  | .slice elems spare => uptoBulkAll elems + uptoBulkAll spare + 1
  | .agg parts => uptoBulkAll parts + 1
  | .iface _ d => uptoBulk d + 1
  | .map entries => uptoBulkEntries entries + 1
  | .held _ => 1
def uptoBulkAll {H : Type} : List (DataW H) → Nat
  | [] => 0
  | d :: r => uptoBulk d + uptoBulkAll r
def uptoBulkEntries {H : Type} : List (Lit × DataW H) → Nat
  | [] => 0
  | x :: r => uptoBulkEntry x + uptoBulkEntries r
def uptoBulkEntry {H : Type} : Lit × DataW H → Nat
  | (.string bytes, d) => bytes.length + uptoBulk d + 1
  | (_, d) => uptoBulk d + 1
 end
def uptoSmall : (H : Type) → List (DataW H) → Bool := fun _ ds => decide (uptoBulkAll ds ≤ 1048576)
def OpenSpec.upto (s : _root_.Go.ChangeSpec) : _root_.Go.OpenSpec := { _root_.Go.OpenSpec.ofChange s with cond := some uptoSmall }

/-- 'burgagelaw01.SetParts', WHERE WHAT IT READS IS OF BULK AT MOST 1048576: true; the input reads as it did. -/
def setPartsUptoRow : OpenClaim := { program := "ytjlhclmplmkhaaadoor", sum := "caa1eeb7b38f79b2697cd0e210cd757998fb498fb6c5bff6b6640f353aea1a6d", func := "burgage/burgagelaw01.SetParts", spec := "setParts", named := ["math/bits.deBruijn64tab"], apart := false, laid := [("math/bits.deBruijn64tab", laid_math_bits_deBruijn64tab)], narrowed := true }
def SetPartsUptoSaid : Prop := setPartsUptoRow.holds Tryd.pinned (OpenSpec.upto setPartsSpec)

/-- 'burgagelaw01.SetLists', WHERE WHAT IT READS IS OF BULK AT MOST 1048576: true; the input reads as it did. -/
def setListsUptoRow : OpenClaim := { program := "ytjlhclmplmkhaaadoor", sum := "caa1eeb7b38f79b2697cd0e210cd757998fb498fb6c5bff6b6640f353aea1a6d", func := "burgage/burgagelaw01.SetLists", spec := "setLists", named := ["math/bits.deBruijn64tab"], apart := false, laid := [("math/bits.deBruijn64tab", laid_math_bits_deBruijn64tab)], narrowed := true }
def SetListsUptoSaid : Prop := setListsUptoRow.holds Tryd.pinned (OpenSpec.upto setListsSpec)

/-- 'burgagelaw01.SetBack', WHERE WHAT IT READS IS OF BULK AT MOST 1048576: true; the input reads as it did. -/
def setBackUptoRow : OpenClaim := { program := "ytjlhclmplmkhaaadoor", sum := "caa1eeb7b38f79b2697cd0e210cd757998fb498fb6c5bff6b6640f353aea1a6d", func := "burgage/burgagelaw01.SetBack", spec := "setBack", named := ["math/bits.deBruijn64tab"], apart := false, laid := [("math/bits.deBruijn64tab", laid_math_bits_deBruijn64tab)], narrowed := true }
def SetBackUptoSaid : Prop := setBackUptoRow.holds Tryd.pinned (OpenSpec.upto setBackSpec)

/-- 'burgagelaw02.RelParts', WHERE WHAT IT READS IS OF BULK AT MOST 1048576: true; the input reads as it did. -/
def relPartsUptoRow : OpenClaim := { program := "ytjlhclmplmkhaaadoor", sum := "caa1eeb7b38f79b2697cd0e210cd757998fb498fb6c5bff6b6640f353aea1a6d", func := "burgage/burgagelaw02.RelParts", spec := "relParts", named := ["math/bits.deBruijn64tab"], apart := false, laid := [("math/bits.deBruijn64tab", laid_math_bits_deBruijn64tab)], narrowed := true }
def RelPartsUptoSaid : Prop := relPartsUptoRow.holds Tryd.pinned (OpenSpec.upto relPartsSpec)

/-- 'burgagelaw02.RelSorts', WHERE WHAT IT READS IS OF BULK AT MOST 1048576: true; the input reads as it did. -/
def relSortsUptoRow : OpenClaim := { program := "ytjlhclmplmkhaaadoor", sum := "caa1eeb7b38f79b2697cd0e210cd757998fb498fb6c5bff6b6640f353aea1a6d", func := "burgage/burgagelaw02.RelSorts", spec := "relSorts", named := ["math/bits.deBruijn64tab"], apart := false, laid := [("math/bits.deBruijn64tab", laid_math_bits_deBruijn64tab)], narrowed := true }
def RelSortsUptoSaid : Prop := relSortsUptoRow.holds Tryd.pinned (OpenSpec.upto relSortsSpec)

/-- 'burgagelaw02.RelCycles', WHERE WHAT IT READS IS OF BULK AT MOST 1048576: true; the input reads as it did. -/
def relCyclesUptoRow : OpenClaim := { program := "ytjlhclmplmkhaaadoor", sum := "caa1eeb7b38f79b2697cd0e210cd757998fb498fb6c5bff6b6640f353aea1a6d", func := "burgage/burgagelaw02.RelCycles", spec := "relCycles", named := ["math/bits.deBruijn64tab"], apart := false, laid := [("math/bits.deBruijn64tab", laid_math_bits_deBruijn64tab)], narrowed := true }
def RelCyclesUptoSaid : Prop := relCyclesUptoRow.holds Tryd.pinned (OpenSpec.upto relCyclesSpec)

/-- 'burgagelaw02.RelChains', WHERE WHAT IT READS IS OF BULK AT MOST 1048576: true; the input reads as it did. -/
def relChainsUptoRow : OpenClaim := { program := "ytjlhclmplmkhaaadoor", sum := "caa1eeb7b38f79b2697cd0e210cd757998fb498fb6c5bff6b6640f353aea1a6d", func := "burgage/burgagelaw02.RelChains", spec := "relChains", named := ["math/bits.deBruijn64tab"], apart := false, laid := [("math/bits.deBruijn64tab", laid_math_bits_deBruijn64tab)], narrowed := true }
def RelChainsUptoSaid : Prop := relChainsUptoRow.holds Tryd.pinned (OpenSpec.upto relChainsSpec)

/-- 'burgagetop.WholeSteps', WHERE WHAT IT READS IS OF BULK AT MOST 1048576: true; the input reads as it did. -/
def wholeStepsUptoRow : OpenClaim := { program := "ytjlhclmplmkhaaadoor", sum := "caa1eeb7b38f79b2697cd0e210cd757998fb498fb6c5bff6b6640f353aea1a6d", func := "burgage/burgagetop.WholeSteps", spec := "wholeSteps", named := ["math/bits.deBruijn64tab"], apart := false, laid := [("math/bits.deBruijn64tab", laid_math_bits_deBruijn64tab)], narrowed := true }
def WholeStepsUptoSaid : Prop := wholeStepsUptoRow.holds Tryd.pinned (OpenSpec.upto wholeStepsSpec)

end Rows
end Go.Proofs.YtjlhclmplmkhaaaDoor
