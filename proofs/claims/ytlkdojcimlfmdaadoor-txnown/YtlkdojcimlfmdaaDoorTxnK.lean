/- The walk of the reference's Writes. Conditions: a slice's cells are known. -/
import Derived.Test.YtlkdojcimlfmdaaDoorTxnJ
namespace Go.Proofs.YtlkdojcimlfmdaaDoor
set_option maxRecDepth 100000
open Go.RowKit

/-- The place of the last write so far. -/
def LastAt (l : List OpV) (k j : Nat) (i : Int) : Prop := (i = -1 ∧ lastW (l.take j) k = none) ∨ ∃ p : Nat, ∃ h : p < l.length, i = p ∧ lastW (l.take j) k = some l[p]
theorem LastAt.yes {l : List OpV} {k j : Nat} (h : j < l.length) (h1 : l[j].key = k) (h2 : l[j].wr = true) : LastAt l k (j + 1) j :=
  .inr ⟨j, h, rfl, by rw [take_snoc l j h, lastW_snoc, if_pos h2, h1, putF_same]⟩
theorem LastAt.no {l : List OpV} {k j : Nat} {i : Int} (hL : LastAt l k j i) (h : j < l.length) (h1 : ¬ (l[j].key = k ∧ l[j].wr = true)) : LastAt l k (j + 1) i := by
  have e : lastW (l.take (j + 1)) k = lastW (l.take j) k := by
    rw [take_snoc l j h, lastW_snoc]
    cases hw : l[j].wr
    · rfl
    · simp only [if_true]; rw [putF_other]; exact fun e => h1 ⟨e.symm, hw⟩
  unfold LastAt at *
  rw [e]; exact hL
end Go.Proofs.YtlkdojcimlfmdaaDoor
