/- The walks of the reference's look back and of its Steady. Conditions: a slice's cells are known. -/
import Derived.Test.YtlkdojcimlfmdaaDoorTxnA
import Derived.Deep.QuietTactic
import Derived.BigQuiet
import Derived.WalkSmall
namespace Go.Proofs.YtlkdojcimlfmdaaDoor
set_option maxRecDepth 100000
open Go.RowKit

theorem lastO_step {l : List OpV} {j : Nat} (hj : j < l.length) (key : Int) : lastO (l.take (j + 1)) key = if key = l[j].key then some l[j] else lastO (l.take j) key := by
  rw [take_snoc l j hj, lastO_snoc]; rfl
end Go.Proofs.YtlkdojcimlfmdaaDoor
