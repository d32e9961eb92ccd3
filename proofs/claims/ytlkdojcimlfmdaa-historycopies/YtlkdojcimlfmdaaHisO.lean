/- The walk of the law on values written twice. Conditions: a slice's cells are known; a transaction has fewer operations than memory holds. -/
import Derived.Test.YtlkdojcimlfmdaaHisN
namespace Go.Proofs.Ytlkdojcimlfmdaa
set_option maxRecDepth 100000
open Go.RowKit

/-- How often each number stands in a list, as a map tells it. -/
def cntF (W : List Int) : Int → Option Int := fun x => if x ∈ W then some (W.count x : Int) else none
theorem cntF_nil : cntF [] = fun _ => none := by funext x; simp [cntF]
theorem cntF_snoc (W : List Int) (x : Int) : cntF (W ++ [x]) = putF (cntF W) x ((cntF W x).getD 0 + 1) := by
  funext y
  unfold putF cntF
  by_cases hy : y = x
  · subst hy
    by_cases hin : y ∈ W
    · simp [hin, List.count_append]
    · simp [hin, List.count_append, List.count_eq_zero_of_not_mem hin]
  · by_cases hin : y ∈ W
    · have : ¬ x = y := fun e => hy e.symm
      simp [hin, hy, List.count_append, this]
    · simp [hin, hy]
theorem cntF_le (W : List Int) (x : Int) : 0 ≤ (cntF W x).getD 0 ∧ (cntF W x).getD 0 ≤ W.length := by
  unfold cntF
  split
  · have := List.count_le_length (a := x) (l := W)
    simp; omega
  · simp
theorem nodup_more (W : List Int) (x : Int) : (!decide (W ++ [x]).Nodup) = (!decide W.Nodup || decide (1 < (cntF W x).getD 0 + 1)) := by
  by_cases hin : x ∈ W
  · have h1 : ¬ (W ++ [x]).Nodup := not_nodup_snoc hin
    have h2 : 0 < W.count x := List.count_pos_iff.2 hin
    have h3 : (1 : Int) < (cntF W x).getD 0 + 1 := by unfold cntF; rw [if_pos hin]; simp; omega
    simp [h1, h3]
  · have h3 : ¬ (1 : Int) < (cntF W x).getD 0 + 1 := by unfold cntF; rw [if_neg hin]; simp
    by_cases hn : W.Nodup
    · simp [hn, h3, nodup_snoc hn hin]
    · have h1 : ¬ (W ++ [x]).Nodup := fun h => hn (List.nodup_append.1 h).1
      simp [hn, h1]
theorem wvH_len (h : List TxnV) : (wvH h).length ≤ opsN h := by
  induction h with
  | nil => simp [wvH, opsN]
  | cons t h ih =>
    have := wv_len t.l
    unfold wvH opsN at *
    simp only [List.flatMap_cons, List.length_append, List.map_cons, List.sum_cons]
    omega
end Go.Proofs.Ytlkdojcimlfmdaa
