/- The walk of the law on the order of the levels. Conditions: the table of the levels lies where it is laid. -/
import Derived.Test.YtadihdkpoeibhaaDoorTblG
namespace Go.Proofs.YtadihdkpoeibhaaDoor
set_option maxRecDepth 100000
open Go.RowKit

theorem imp_self : ∀ x : Fin 12, impB (x.val : Int) (x.val : Int) = true := by decide +kernel
theorem imp_trans : ∀ x y z : Fin 12, impB (x.val : Int) (y.val : Int) = true → impB (y.val : Int) (z.val : Int) = true → impB (x.val : Int) (z.val : Int) = true := by decide +kernel
theorem imp_anti : ∀ x y : Fin 12, impB (x.val : Int) (y.val : Int) = true → impB (y.val : Int) (x.val : Int) = true → x = y := by decide +kernel
end Go.Proofs.YtadihdkpoeibhaaDoor
