/- The walk of the law on checks. Conditions: a slice's cells are known; a transaction has fewer operations than memory holds. -/
import Derived.Test.YtcaomjieambomaaHisM
namespace Go.Proofs.Ytcaomjieambomaa
set_option maxRecDepth 100000
open Go.RowKit

theorem big_no {h : List TxnV} (hb : bigI h = 0) : h.length ≤ 100 ∧ opsN h ≤ 1200 := by
  unfold bigI at hb; split at hb
  · cases hb
  · omega
set_option maxHeartbeats 8000000 in
theorem checks_walk (va : Value) (h : List TxnV) (w : World) (hT : Txns w va h) (hok : ∀ t ∈ h, t.ok) (hsh : Short h) :
    Calls Try.prog 3 #[va] w fun e w' => e = .returned (.bool true) ∧ Below w.heap.size w w' := by
  have HT := Lib.hid (fun wx (hx : Below w.heap.size w wx) => hT.below hx)
  clear hT
  go_enter Try.func3, Try.ntmps3
  go_wp2_with fail
  refine (speaks6_any _).mono ?_
  rintro e w1 ⟨rfl, hb1⟩
  go_wp2_with fail
  refine (big_any _ h _ (HT.out _ hb1) hsh).mono ?_
  rintro e w2 ⟨rfl, hb2⟩
  have hb2 := below_then hb1 hb2
  clear hb1
  by_cases hbig : bigI h = 1
  · rw [hbig]
    go_wp2_with fail
    go_ret
    exact ⟨rfl, hb2⟩
  · have h0 : bigI h = 0 := by
      unfold bigI at hbig ⊢; split at hbig
      · exact (hbig rfl).elim
      · rename_i hn; rw [if_neg hn]
    have hs := big_no h0
    rw [h0]
    go_wp2_with fail
    refine (hcheck_any _ h _ (HT.out _ hb2) hok hsh).mono ?_
    rintro e w3 ⟨rfl, hb3⟩
    have hb3 := below_then hb2 hb3
    clear hb2
    rw [check_ref]
    go_wp2_with fail
    refine (rcheck_any _ h _ (HT.out _ hb3) hsh).mono ?_
    rintro e w4 ⟨rfl, hb4⟩
    have hb4 := below_then hb3 hb4
    clear hb3
    generalize checkR h = c
    go_wp2_with fail
    refine (hops_any _ h _ (HT.out _ hb4) (by omega)).mono ?_
    rintro e w5 ⟨rfl, hb5⟩
    have hb5 := below_then hb4 hb5
    clear hb4
    go_wp2_with fail
    refine (count_any _ h _ (HT.out _ hb5) (by omega)).mono ?_
    rintro e w6 ⟨rfl, hb6⟩
    have hb6 := below_then hb5 hb6
    clear hb5
    go_wp2_with fail
    go_ret
    exact ⟨rfl, hb6⟩
end Go.Proofs.Ytcaomjieambomaa
