/- A law: '==' of two rows of levels that are the same array. Conditions: none. -/
import Derived.Test.YtadihdkpoeibhaaDoorTblA
import Derived.ChangeKeysEq
namespace Go.Proofs.YtadihdkpoeibhaaDoor
set_option maxRecDepth 100000
open Go.RowKit

theorem items_rowB (r : Nat → Bool) (w : World) : ∀ (is : List Nat), (∀ i ∈ is, i < 12) → (Op.eqItems 9999 4 1 (rowB r) (rowB r) is).run Tryd.prog w = .ok true w
  | [], _ => by simp [Op.eqItems]
  | i :: is, h => by
    have hi := h i List.mem_cons_self
    have h1 := rowB_at r hi
    have ih := items_rowB r w is (fun j hj => h j (List.mem_cons_of_mem _ hj))
    have hp : (part 4 (rowB r) (i * 1)).run Tryd.prog w = .ok (.bool (r i)) w := by
      simp [part, isAgg, Sem.run_bind, run_underlying Tryd.underlying4 w, h1]
    have he : (Op.equalIn (9998 + 1) 4 (.bool (r i)) (.bool (r i))).run Tryd.prog w = .ok true w := by
      rw [run_equalIn_bool w 9998 4 _ _ Tryd.underlying4]
      simp
    simp only [Op.eqItems, Sem.run_bind, hp, Result.andThen_ok]
    rw [he]
    simp only [Result.andThen_ok, Bool.not_true, Bool.false_eq_true, if_false]
    exact ih
theorem run_eql_rowB (r : Nat → Bool) (w : World) : (binOp .eql 25 (.agg (rowB r)) (.agg (rowB r))).run Tryd.prog w = .ok (.bool true) w := by
  obtain ⟨i, hi, _⟩ := Option.map_eq_some_iff.1 infoBool
  have hc : Tryd.prog.cellsOf 4 = 1 := by kernel_rfl
  rw [run_eql_struct, run_equalIn_array w 9999 (rowB r) (rowB r) Tryd.underlying25 hi, hc, items_rowB r w _ (fun i hi => List.mem_range.1 hi)]
  rfl
theorem guard_rowB (o : BinOp) (x y : Operand) (r s : Nat → Bool) (w : World) : Sem.run Tryd.prog (eqGuard o 25 x y (.agg (rowB r)) (.agg (rowB s))) w = .ok () w :=
  run_eqGuard_agg w o 25 x y _ _ (by kernel_rfl)
end Go.Proofs.YtadihdkpoeibhaaDoor
