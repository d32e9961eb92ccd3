/- Walks of the set package's smallest functions: bit, Has, With, Without, Within. Conditions: a set is a number from 0 to 2^64 - 1. -/
import Derived.Test.YtadihdkpoeibhaaDoorProg
import Derived.Test.YtadihdkpoeibhaaDoorSetM
import Derived.WalkKit
import Derived.WalkSpells
import Derived.WalkLawsBesides
import Derived.Lib.Hide
namespace Go.Proofs.YtadihdkpoeibhaaDoor
set_option maxRecDepth 100000
open Go.RowKit

theorem ret_i {k : IntKind} {a b : Int} (h : a = b) : Ending.returned (.int k a) = .returned (.int k b) := by rw [h]
theorem ret_b {a b : Bool} (h : a = b) : Ending.returned (.bool a) = .returned (.bool b) := by rw [h]

end Go.Proofs.YtadihdkpoeibhaaDoor
