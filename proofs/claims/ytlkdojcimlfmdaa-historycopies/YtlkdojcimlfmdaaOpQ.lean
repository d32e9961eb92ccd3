/- '==' of operations. Condition: none. -/
import Derived.Test.YtlkdojcimlfmdaaOpZ
import Derived.Laws.StructEq
namespace Go.Proofs.Ytlkdojcimlfmdaa
set_option maxRecDepth 100000
open Go.RowKit

instance : DecidableEq OpV := fun a b => by
  obtain ⟨a1, a2, a3⟩ := a
  obtain ⟨b1, b2, b3⟩ := b
  exact if h : a1 = b1 ∧ a2 = b2 ∧ a3 = b3 then .isTrue (by obtain ⟨rfl, rfl, rfl⟩ := h; rfl) else .isFalse (fun e => by cases e; exact h ⟨rfl, rfl, rfl⟩)
theorem neqOp (a b c a' b' c') (w : World) : Sem.run Try.prog (binOp .neq 31 (.agg #[.bool a, .int .i64 b, .int .i64 c]) (.agg #[.bool a', .int .i64 b', .int .i64 c'])) w = .ok (.bool (decide ((⟨a, b, c⟩ : OpV) ≠ ⟨a', b', c'⟩))) w := by
  have hS : Try.prog.underlying 31 = some (.struct (Try.prog.fieldsOf 31)) := by kernel_rfl
  have hp : Try.prog.stoodInHeld 31 = false := by kernel_rfl
  have u3 := Try.underlying3
  have u4 := Try.underlying4
  rw [run_neq_struct, show (10000 : Nat) = 9999 + 1 from rfl, run_equalIn_agg w 9999 31 _ _ hS hp]
  simp only [Program.fieldsOf, Try.underlying31]
  go_simp
  by_cases h1 : a = a' <;> by_cases h2 : b = b' <;> by_cases h3 : c = c' <;> simp [h1, h2, h3]
theorem guardOp (o : BinOp) (x y : Operand) (a b c a' b' c') (w : World) : Sem.run Try.prog (eqGuard o 31 x y (.agg #[.bool a, .int .i64 b, .int .i64 c]) (.agg #[.bool a', .int .i64 b', .int .i64 c'])) w = .ok () w :=
  run_eqGuard_agg w o 31 x y _ _ (by kernel_rfl)
end Go.Proofs.Ytlkdojcimlfmdaa
