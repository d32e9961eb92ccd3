/- The library's variables, as the rows of the text layers list them, lie in memory; a world for the witness of such a row. -/
import Derived.Test.YtjfegknokombgaaDoorLaw
import Derived.Test.YtjfegknokombgaaDoorTokE
import Derived.Stop.LaidErr
namespace Go.Proofs.YtjfegknokombgaaDoor
set_option maxRecDepth 100000
open Go.ChangeShapes Go.WideShapes Go.ChangeAt Go.RowKit

theorem gTenType : (Tryd.prog.globals[2]?).map (·.type) = some 112 := by kernel_rfl
theorem cellsTen : Tryd.prog.cellsOf 112 = 20 := by kernel_rfl
theorem cellsU64 : Tryd.prog.cellsOf 23 = 1 := by kernel_rfl
theorem laidTen {H : Type} : (Rows.laid_internal_strconv_uint64pow10 : DataW H) = Lib.tabData .u64 Lib.pow10Tab := rfl
def listT : List (String × DataW Unit) := [("math/bits.deBruijn32tab", Rows.laid_math_bits_deBruijn32tab), ("math/bits.deBruijn64tab", Rows.laid_math_bits_deBruijn64tab), ("internal/strconv.uint64pow10", Rows.laid_internal_strconv_uint64pow10), ("unicode/utf8.acceptRanges", Rows.laid_unicode_utf8_acceptRanges), ("unicode/utf8.first", Rows.laid_unicode_utf8_first)]
theorem env_of {W : World} (h : laidMet Tryd.prog listT W) (hs : W.ShapedOpen Tryd.prog) : Env W :=
  ⟨Lib.tabIs_of_head (rest := [("unicode/utf8.acceptRanges", Rows.laid_unicode_utf8_acceptRanges), ("unicode/utf8.first", Rows.laid_unicode_utf8_first)]) gTen gTenType Tryd.underlying112 Tryd.underlying23 cellsU64 cellsTen (laidMet.tail (laidMet.tail h)), Tryd.laysM146.s1_3 W hs⟩
/-- A datum's cells, two steps deep. -/
def leafV : DataW Unit → List Value
  | .lit (.int k n) => [.int k n]
  | .lit (.bool b) => [.bool b]
  | _ => []
def leafVV : DataW Unit → List Value
  | .agg ds => ds.flatMap fun d => match d with
    | .agg es => es.flatMap leafV
    | d => leafV d
  | d => leafV d
def setG (h : Array Obj) (g : Nat) (d : DataW Unit) : Array Obj := h.modify g fun
  | .cells _ t frozen => .cells (leafVV d).toArray t frozen
  | o => o
/-- A world in which the variables hold what their initialisers lay. -/
noncomputable def laidWorldT (os : Os) : World :=
  { World.holding Tryd.prog os ⟨#[], #[], []⟩ with heap := setG (setG (setG (setG (setG (World.holding Tryd.prog os ⟨#[], #[], []⟩).heap 5 Rows.laid_math_bits_deBruijn32tab) 1 Rows.laid_math_bits_deBruijn64tab) 2 Rows.laid_internal_strconv_uint64pow10) 4 Rows.laid_unicode_utf8_acceptRanges) 3 Rows.laid_unicode_utf8_first }
theorem laidT (os : Os) : laidMet Tryd.prog listT (laidWorldT os) := laidMet_of_run' 8 (by kernel_rfl) (by kernel_rfl)
end Go.Proofs.YtjfegknokombgaaDoor
