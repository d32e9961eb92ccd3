/- The library's tables, as the rows of the transaction layer list them, lie in memory; a world for the witness of such a row. -/
import Derived.Test.YtlkdojcimlfmdaaDoorLaw
import Derived.Test.YtlkdojcimlfmdaaDoorJoinZ
import Derived.Stop.LaidErr
namespace Go.Proofs.YtlkdojcimlfmdaaDoor
set_option maxRecDepth 100000
open Go.ChangeShapes Go.WideShapes Go.ChangeAt Go.RowKit

theorem gTenType : (Tryd.prog.globals[1]?).map (·.type) = some 150 := by kernel_rfl
theorem cellsTen : Tryd.prog.cellsOf 150 = 20 := by kernel_rfl
theorem cellsU64 : Tryd.prog.cellsOf 99 = 1 := by kernel_rfl
theorem laidTen {H : Type} : (Rows.laid_internal_strconv_uint64pow10 : DataW H) = Lib.tabData .u64 Lib.pow10Tab := rfl
def listN : List (String × DataW Unit) := [("math/bits.deBruijn32tab", Rows.laid_math_bits_deBruijn32tab), ("math/bits.deBruijn64tab", Rows.laid_math_bits_deBruijn64tab), ("internal/strconv.uint64pow10", Rows.laid_internal_strconv_uint64pow10)]
theorem ten_of {W : World} (h : laidMet Tryd.prog listN W) : Ten W :=
  Lib.tabIs_of_head (rest := []) gTen gTenType Tryd.underlying150 Tryd.underlying99 cellsU64 cellsTen (laidMet.tail (laidMet.tail h))
/-- A datum's cells, two steps deep. -/
def leafV : DataW Unit → List Value
  | .lit (.int k n) => [.int k n]
  | .lit (.bool b) => [.bool b]
  | _ => []
def leafVV : DataW Unit → List Value
  | .agg ds => ds.flatMap fun d => match d with
    | .agg es => es.flatMap leafV
    | d => leafV d
  | d => leafV d
def setG (h : Array Obj) (g : Nat) (d : DataW Unit) : Array Obj := h.modify g fun
  | .cells _ t frozen => .cells (leafVV d).toArray t frozen
  | o => o
/-- A world in which the tables hold what their initialisers lay. -/
noncomputable def laidWorldN (os : Os) : World :=
  { World.holding Tryd.prog os ⟨#[], #[], []⟩ with heap := setG (setG (setG (World.holding Tryd.prog os ⟨#[], #[], []⟩).heap 4 Rows.laid_math_bits_deBruijn32tab) 5 Rows.laid_math_bits_deBruijn64tab) 1 Rows.laid_internal_strconv_uint64pow10 }
end Go.Proofs.YtlkdojcimlfmdaaDoor
