/- The walk of Steady. Conditions: a slice's cells are known, and hold operations of ints. -/
import Derived.Test.YtcaomjieambomaaTxnM
namespace Go.Proofs.Ytcaomjieambomaa
set_option maxRecDepth 100000
open Go.RowKit

theorem keyI : Try.prog.underlying 3 = some (.int .i64) := Try.underlying3
theorem mapII : Try.prog.underlying 42 = some (.map 3 3) := Try.underlying42
theorem zeroI (w : World) : (zeroValue 3).run Try.prog w = .ok (eI 0) w := by kernel_rfl
theorem txnBlock (w : World) (x y z u : Value) (t : TypeId) : (w.alloc (.cells #[x, y, z, u] t)).cell? ⟨w.heap.size, 0, none⟩ = some x ∧ (w.alloc (.cells #[x, y, z, u] t)).cell? ⟨w.heap.size, 1, none⟩ = some y ∧ (w.alloc (.cells #[x, y, z, u] t)).cell? ⟨w.heap.size, 2, none⟩ = some z ∧ (w.alloc (.cells #[x, y, z, u] t)).cell? ⟨w.heap.size, 3, none⟩ = some u := by
  refine ⟨?_, ?_, ?_, ?_⟩ <;> simp
/-- The values that operations have last. -/
def valO (l : List OpV) : Int → Option Int := fun x => (lastO l x).map (·.val)
theorem valO_snoc (l : List OpV) (o : OpV) : valO (l ++ [o]) = putF (valO l) o.key o.val := by
  funext y
  unfold valO
  rw [lastO_snoc]
  unfold putF
  split <;> rfl
theorem valO_none {l : List OpV} {x : Int} (h : valO l x = none) : lastO l x = none := by
  unfold valO at h; simpa using h
theorem valO_some {l : List OpV} {x v : Int} (h : valO l x = some v) : ∃ p, lastO l x = some p ∧ p.val = v := by
  unfold valO at h; simpa using h
theorem all_snoc {p : Nat → Prop} {k : Nat} (h : ∀ j, j < k → p j) (hk : p k) : ∀ j, j < k + 1 → p j := fun j hj => by
  rcases Nat.lt_or_eq_of_le (Nat.le_of_lt_succ hj) with h1 | rfl
  · exact h j h1
  · exact hk
end Go.Proofs.Ytcaomjieambomaa
