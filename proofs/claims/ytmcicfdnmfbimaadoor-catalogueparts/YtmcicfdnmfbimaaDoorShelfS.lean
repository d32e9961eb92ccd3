/- Nothing of the library's sort is called by this program: no contract is laid. -/
import Derived.Test.YtmcicfdnmfbimaaDoorProg
import Derived.Shelf.SlSortCmp.WholeK
namespace Go.Proofs
end Go.Proofs
