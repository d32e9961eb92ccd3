/- The walk of the law on who writes each value. Conditions: a slice's cells are known; a transaction has fewer operations than memory holds. -/
import Derived.Test.YtlkdojcimlfmdaaHisP
import Derived.Deep.RegionHeld3
namespace Go.Proofs.Ytlkdojcimlfmdaa
set_option maxRecDepth 100000
open Go.RowKit

theorem checkR_cases (h : List TxnV) : (checkR h = 0 ∧ mayRef h = true) ∨ checkR h = 2 ∨ checkR h = 3 := by
  unfold checkR
  split
  · exact .inr (.inr rfl)
  · cases mayRef h
    · exact .inr (.inl rfl)
    · exact .inl ⟨rfl, rfl⟩
theorem may_parts {h : List TxnV} (hm : mayRef h = true) : okW h = true ∧ ∀ t ∈ h, keysIn t.l := by
  rw [← right_ref] at hm
  unfold rightB valuesB at hm
  simp only [Bool.and_eq_true] at hm
  exact ⟨hm.2.1.1, parts_keys hm.1⟩
theorem neqW (i k : Int) (b : Bool) (w : World) : Sem.run Try.prog (binOp .neq 69 (.agg #[.int .i64 i, .int .i64 k, .bool b]) (.agg #[.int .i64 i, .int .i64 k, .bool b])) w = .ok (.bool false) w := by
  have hS : Try.prog.underlying 69 = some (.struct (Try.prog.fieldsOf 69)) := by kernel_rfl
  have hp : Try.prog.stoodInHeld 69 = false := by kernel_rfl
  have u3 := Try.underlying3
  have u4 := Try.underlying4
  rw [run_neq_struct, show (10000 : Nat) = 9999 + 1 from rfl, run_equalIn_agg w 9999 69 _ _ hS hp]
  simp only [Program.fieldsOf, Try.underlying69]
  go_simp
theorem snoc_cast (q0 : Nat) (A B : List Int) (x : Int) (h : A = B ++ [x]) : ((q0 + A.length : Nat) : Int) = (q0 : Int) + (B.length : Int) + 1 := by
  subst h; simp; omega
end Go.Proofs.Ytlkdojcimlfmdaa
