/- The walk of level.Of: the level of a name. Conditions: the table of the levels lies where it is laid. -/
import Derived.Test.YtadihdkpoeibhaaDoorLevC
namespace Go.Proofs.YtadihdkpoeibhaaDoor
set_option maxRecDepth 100000
open Go.RowKit

theorem block_lt' {w : World} {a : Addr} {v : Value} (h : w.cell? a = some v) : a.block < w.heap.size := by
  by_cases h0 : a.block < w.heap.size
  · exact h0
  · simp [World.cell?, Array.getElem?_eq_none (Nat.le_of_not_lt h0)] at h
theorem Kinds.below {w w' : World} (h : Kinds w) (hb : Below w.heap.size w w') : Kinds w' := fun k hk => by
  obtain ⟨h1, h2⟩ := h k hk
  exact ⟨(hb.cell (block_lt' h1)).trans h1, (hb.cell (block_lt' h2)).trans h2⟩
/-- Which of the first k levels bears a name. -/
def isNm (s : ByteArray) (k : Nat) : Bool := (nameAt k).toList == s.toList
theorem name_sep : ∀ i k : Fin 12, (nameAt i.val).toList = (nameAt k.val).toList → i = k := by decide +kernel
/-- The level of a name, and whether there is one. -/
def ofN (s : ByteArray) : Option Nat := (List.range 12).find? fun k => isNm s k
theorem ofN_some {s : ByteArray} {k : Nat} (hk : k < 12) (h : isNm s k = true) : ofN s = some k := by
  unfold ofN
  rw [List.find?_range_eq_some]
  refine ⟨h, by simpa using hk, fun j hj => ?_⟩
  cases hj2 : isNm s j
  · rfl
  · exfalso
    unfold isNm at h hj2
    have e : (nameAt j).toList = (nameAt k).toList := (beq_iff_eq.1 hj2).trans (beq_iff_eq.1 h).symm
    have := name_sep ⟨j, by omega⟩ ⟨k, hk⟩ e
    simp at this
    omega
theorem ofN_none {s : ByteArray} (h : ∀ k, k < 12 → isNm s k = false) : ofN s = none := by
  unfold ofN
  rw [List.find?_eq_none]
  intro k hk
  rw [h k (by simpa using hk)]
  simp
def ofV (s : ByteArray) : Nat := (ofN s).getD 0
end Go.Proofs.YtadihdkpoeibhaaDoor
