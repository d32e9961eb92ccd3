/- The walks of Same of operations, and of the reference's Reads and Writes. Conditions: slices' cells are known. -/
import Derived.Test.YtlkdojcimlfmdaaTxnH
import Derived.Test.YtlkdojcimlfmdaaOpQ
namespace Go.Proofs.Ytlkdojcimlfmdaa
set_option maxRecDepth 100000
open Go.RowKit

def sameI (a b : List OpV) : Int := if a = b then 1 else 0
end Go.Proofs.Ytlkdojcimlfmdaa
