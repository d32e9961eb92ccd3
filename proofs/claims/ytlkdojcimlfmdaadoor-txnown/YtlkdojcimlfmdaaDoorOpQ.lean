/- '==' of operations. Condition: none. -/
import Derived.Test.YtlkdojcimlfmdaaDoorOpZ
import Derived.Laws.StructEq
namespace Go.Proofs.YtlkdojcimlfmdaaDoor
set_option maxRecDepth 100000
open Go.RowKit

instance : DecidableEq OpV := fun a b => by
  obtain ⟨a1, a2, a3⟩ := a
  obtain ⟨b1, b2, b3⟩ := b
  exact if h : a1 = b1 ∧ a2 = b2 ∧ a3 = b3 then .isTrue (by obtain ⟨rfl, rfl, rfl⟩ := h; rfl) else .isFalse (fun e => by cases e; exact h ⟨rfl, rfl, rfl⟩)
theorem neqOp (a b c a' b' c') (w : World) : Sem.run Tryd.prog (binOp .neq 26 (.agg #[.bool a, .int .i64 b, .int .i64 c]) (.agg #[.bool a', .int .i64 b', .int .i64 c'])) w = .ok (.bool (decide ((⟨a, b, c⟩ : OpV) ≠ ⟨a', b', c'⟩))) w := by
  have hS : Tryd.prog.underlying 26 = some (.struct (Tryd.prog.fieldsOf 26)) := by kernel_rfl
  have hp : Tryd.prog.stoodInHeld 26 = false := by kernel_rfl
  have u3 := Tryd.underlying3
  have u4 := Tryd.underlying4
  rw [run_neq_struct, show (10000 : Nat) = 9999 + 1 from rfl, run_equalIn_agg w 9999 26 _ _ hS hp]
  simp only [Program.fieldsOf, Tryd.underlying26]
  go_simp
  by_cases h1 : a = a' <;> by_cases h2 : b = b' <;> by_cases h3 : c = c' <;> simp [h1, h2, h3]
theorem guardOp (o : BinOp) (x y : Operand) (a b c a' b' c') (w : World) : Sem.run Tryd.prog (eqGuard o 26 x y (.agg #[.bool a, .int .i64 b, .int .i64 c]) (.agg #[.bool a', .int .i64 b', .int .i64 c'])) w = .ok () w :=
  run_eqGuard_agg w o 26 x y _ _ (by kernel_rfl)
end Go.Proofs.YtlkdojcimlfmdaaDoor
