/- A law: '==' of two relations that are the same array. Conditions: none. -/
import Derived.Test.YtjfegknokombgaaDoorRelB
import Derived.ChangeKeysEq
namespace Go.Proofs.YtjfegknokombgaaDoor
set_option maxRecDepth 100000
open Go.RowKit

theorem items_same (R : Mat) (w : World) : ∀ (is : List Nat), (∀ i ∈ is, i < 64) → (Op.eqItems 9999 25 1 (rowsA R) (rowsA R) is).run Tryd.prog w = .ok true w
  | [], _ => by simp [Op.eqItems]
  | i :: is, h => by
    have hi := h i List.mem_cons_self
    have h1 := rowsA_at R hi
    have ih := items_same R w is (fun j hj => h j (List.mem_cons_of_mem _ hj))
    have hp : (part 25 (rowsA R) (i * 1)).run Tryd.prog w = .ok (.int .u64 ((mkS (R i) : Nat) : Int)) w := by
      simp [part, isAgg, Sem.run_bind, run_underlying Tryd.underlying25 w, h1]
    have he : (Op.equalIn (9998 + 1) 25 (.int .u64 ((mkS (R i) : Nat) : Int)) (.int .u64 ((mkS (R i) : Nat) : Int))).run Tryd.prog w = .ok true w := by
      rw [run_equalIn_int w 9998 25 .u64 .u64 _ _ Tryd.underlying25]
      simp
    simp only [Op.eqItems, Sem.run_bind, hp, Result.andThen_ok]
    rw [he]
    simp only [Result.andThen_ok, Bool.not_true, Bool.false_eq_true, if_false]
    exact ih
theorem run_eql_rel (R : Mat) (w : World) : (binOp .eql 27 (.agg (rowsA R)) (.agg (rowsA R))).run Tryd.prog w = .ok (.bool true) w := by
  obtain ⟨i, hi, _⟩ := Option.map_eq_some_iff.1 infoSet
  have hc : Tryd.prog.cellsOf 25 = 1 := by kernel_rfl
  rw [run_eql_struct, run_equalIn_array w 9999 (rowsA R) (rowsA R) Tryd.underlying27 hi, hc, items_same R w _ (fun i hi => List.mem_range.1 hi)]
  rfl
theorem wp_eql_rel {o : Oper} {a : Act} {w : World} {K : Act → World → Prop} {Q : Exit → Act → World → Prop} {R : Mat} (x y : Operand) (ho : o.op = .binOp .eql 27 x y 27)
    (hx : a.eval x = .agg (rowsA R)) (hy : a.eval y = .agg (rowsA R)) (hn : K (a.put o.dst (.bool true)) w) : o.wp Tryd.prog a w K Q := by
  have hm : Tryd.prog.eqGuardType Tryd.prog.depth 27 = false := by kernel_rfl
  unfold Oper.wp execOp
  simp only [ho, hx, hy, Sem.run_bind, run_eqGuard_agg w _ _ _ _ _ _ hm, run_eql_rel, Result.andThen_ok, Sem.run_pure]
  exact hn
end Go.Proofs.YtjfegknokombgaaDoor
