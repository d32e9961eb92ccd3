/- A block of memory that is known whole; nothing of the program. -/
import Derived.Test.YtjfegknokombgaaDoorSlc
namespace Go.Proofs.YtjfegknokombgaaDoor
set_option maxRecDepth 100000
open Go.RowKit

/-- Block g holds these cells of this type, and all of them may be written. -/
def Whole (w : World) (g : Nat) (t : TypeId) (cs : Array Value) : Prop := w.heap[g]? = some (.cells cs t (0, 0))
theorem Whole.lt {w : World} {g : Nat} {t : TypeId} {cs : Array Value} (h : Whole w g t cs) : g < w.heap.size := by
  by_cases hg : g < w.heap.size
  · exact hg
  · unfold Whole at h; rw [Array.getElem?_eq_none (by omega)] at h; cases h
theorem Whole.cell {w : World} {g : Nat} {t : TypeId} {cs : Array Value} (h : Whole w g t cs) (i : Nat) : w.cell? ⟨g, i, none⟩ = cs[i]? := by
  unfold Whole at h
  simp [World.cell?, h]
theorem Whole.frozen {w : World} {g : Nat} {t : TypeId} {cs : Array Value} (h : Whole w g t cs) (i : Nat) : w.frozen? ⟨g, i, none⟩ = false := by
  unfold Whole at h
  simp [World.frozen?, h]
theorem Whole.new (w : World) (t : TypeId) (cs : Array Value) : Whole (w.alloc (.cells cs t)) w.heap.size t cs := heap_alloc_new w _
theorem Whole.below {w w' : World} {g : Nat} {t : TypeId} {cs : Array Value} (h : Whole w g t cs) (hb : Below w.heap.size w w') : Whole w' g t cs := (hb.block g h.lt).trans h
theorem Whole.put {w : World} {g : Nat} {t : TypeId} {cs : Array Value} (h : Whole w g t cs) (i : Nat) (v : Value) : Whole (w.setCell ⟨g, i, none⟩ v) g t (cs.setIfInBounds i v) := by
  unfold Whole at h ⊢
  simp [World.setCell, Array.getElem?_modify, h]
/-- A store into that block leaves all others as they were. -/
theorem below_put {B g : Nat} {w w' : World} (hb : Below B w w') (hg : B ≤ g) (i : Nat) (v : Value) : Below B w (w'.setCell ⟨g, i, none⟩ v) := hb.setCell (p := ⟨g, i, none⟩) hg _
theorem Whole.row {w : World} {g : Nat} {t : TypeId} {cs : List Value} {n : Nat} (h : Whole w g t cs.toArray) (hn : cs.length = n) (hm : n ≤ maxLen) : Row w (.slice (some ⟨g, 0, none⟩) n n) n 1 cs := by
  refine ⟨by omega, some ⟨g, 0, none⟩, n, rfl, ⟨by omega, hm⟩, (fun h => by cases h), fun _ => ⟨g, 0, rfl, fun i _ => ?_⟩⟩
  rw [h.cell]; simp
end Go.Proofs.YtjfegknokombgaaDoor
