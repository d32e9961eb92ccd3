/- The walks of the reference's Reads and Writes. Conditions: a slice's cells are known. -/
import Derived.Test.YtlkdojcimlfmdaaDoorTxnI
namespace Go.Proofs.YtlkdojcimlfmdaaDoor
set_option maxRecDepth 100000
open Go.RowKit

theorem rdTo_none {l : List OpV} {k j : Nat} (h : lastO (l.take j) k = none) : rdTo l k j = none := by
  have := firstO_none (l := l.take j) (x := (k : Int))
  rw [h] at this
  unfold rdTo rdK
  rw [show firstO (l.take j) k = none from by simpa using this]; rfl
theorem rdTo_all (l : List OpV) (k : Nat) : rdTo l k l.length = rdK l k := by unfold rdTo; rw [List.take_length]
theorem Own.lit0 (w : World) : Own (w.alloc (.cells #[] 26)) w.heap.size (.slice (some ⟨w.heap.size, 0, none⟩) 0 0) [] := World.ownsRow_lit (base := w.heap.size) (size := 3) w #[] 0 (Nat.le_refl _) (by decide) rfl
end Go.Proofs.YtlkdojcimlfmdaaDoor
