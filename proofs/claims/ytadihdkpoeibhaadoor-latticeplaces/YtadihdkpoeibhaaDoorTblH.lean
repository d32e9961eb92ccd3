/- The walk of the levels of some bits. Conditions: the bits are a number below 65536. -/
import Derived.Test.YtadihdkpoeibhaaDoorTblG
import Derived.Laws.BitsAllLaws
namespace Go.Proofs.YtadihdkpoeibhaaDoor
set_option maxRecDepth 100000
open Go.RowKit

theorem u16_bit (s k : Nat) (hs : s < 65536) : bits .and .u16 ((s : Int) / 2 ^ k) 1 = (if s.testBit k then 1 else 0) := by
  have e1 : ((s : Int) / 2 ^ k) = ((s / 2 ^ k : Nat) : Int) := by simp
  have hle : s / 2 ^ k ≤ s := Nat.div_le_self _ _
  rw [e1, show (1 : Int) = ((1 : Nat) : Int) from rfl, u16_and_nat _ 1 (by omega) (by omega), Nat.and_one_is_mod, Nat.testBit_eq_decide_div_mod_eq]
  rcases Nat.mod_two_eq_zero_or_one (s / 2 ^ k) with h | h <;> rw [h] <;> simp
/-- The bits below k; the levels of a row below k. -/
def bvTo (r : Nat → Bool) (k : Nat) : Nat → Bool := fun i => decide (i < k) && r i
def lvTo (r : Nat → Bool) (k : Nat) : List Nat := (List.range k).filter r
theorem lvTo_succ (r : Nat → Bool) (k : Nat) : lvTo r (k + 1) = lvTo r k ++ (if r k then [k] else []) := by
  unfold lvTo
  rw [List.range_succ, List.filter_append]
  congr 1
  cases h : r k <;> simp [h]
theorem lvTo_len (r : Nat → Bool) (k : Nat) : (lvTo r k).length ≤ k := by
  unfold lvTo
  have := List.length_filter_le r (List.range k)
  simpa using this
theorem bvTo_hit {r : Nat → Bool} {k : Nat} (h : r k = true) : rSet (bvTo r k) k true = bvTo r (k + 1) := by
  funext i
  unfold rSet bvTo
  by_cases e : i = k
  · subst e; simp [h]
  · rw [if_neg e]
    congr 1
    rw [Bool.eq_iff_iff, decide_eq_true_eq, decide_eq_true_eq]; omega
theorem bvTo_miss {r : Nat → Bool} {k : Nat} (h : r k = false) : bvTo r (k + 1) = bvTo r k := by
  funext i
  unfold bvTo
  by_cases e : i = k
  · subst e; simp [h]
  · congr 1
    rw [Bool.eq_iff_iff, decide_eq_true_eq, decide_eq_true_eq]; omega
theorem bvTo_all (r : Nat → Bool) : rowB (bvTo r 12) = rowB r := rowB_congr fun i hi => by unfold bvTo; rw [decide_eq_true hi]; rfl
theorem results_rowB2 {fn : Func} {p u : Tmp} (h : fn.results = #[.cell p 25, .tmp u]) (tmps : Array Value) (w : World) (g : Nat) (r : Nat → Bool)
    (hp : tmps.getD p undef = .pointer (some ⟨g, 0, none⟩)) (hg : BRow w g r) : (results fn tmps).run Tryd.prog w = .ok (.tuple #[.agg (rowB r), tmps.getD u undef]) w := by
  have hp' : tmps[p]?.getD undef = .pointer (some ⟨g, 0, none⟩) := by simpa using hp
  simp [results, h, hp', asAddr, run_loadVar_row w g _ 25 (rowB r) _ _ hg Tryd.underlying25 rfl (infoRow' _)]
theorem owns_cell {w : World} {base : Nat} {e : TypeId} {v : Value} {n : Nat} {xs : List Value} (h : w.ownsRow base e 1 v n xs) {g i : Nat} (hg : g < base) (x : Value) : (w.setCell ⟨g, i, none⟩ x).ownsRow base e 1 v n xs := by
  refine h.kept (row := some g) ⟨rfl, rfl, rfl, by simp, fun k hk hne => ?_⟩ (.inr fun e2 => ?_)
  · exact heap_setCell_other w ⟨g, i, none⟩ k x (fun e3 => hne (by rw [e3]))
  · have := (h.lt g e2).1; omega
end Go.Proofs.YtadihdkpoeibhaaDoor
