/- The walk of the law on checks. Conditions: a slice's cells are known; a transaction has fewer operations than memory holds. -/
import Derived.Test.YtlkdojcimlfmdaaHisM
namespace Go.Proofs.Ytlkdojcimlfmdaa
set_option maxRecDepth 100000
open Go.RowKit

theorem big_no {h : List TxnV} (hb : bigI h = 0) : h.length ≤ 100 ∧ opsN h ≤ 1200 := by
  unfold bigI at hb; split at hb
  · cases hb
  · omega
end Go.Proofs.Ytlkdojcimlfmdaa
