/- Walks: the reference's Then of pairs. Conditions: slices' cells are known; not too many pairs. -/
import Derived.Test.YtjfegknokombgaaDoorRelG
namespace Go.Proofs.YtjfegknokombgaaDoor
set_option maxRecDepth 100000
open Go.RowKit

end Go.Proofs.YtjfegknokombgaaDoor
