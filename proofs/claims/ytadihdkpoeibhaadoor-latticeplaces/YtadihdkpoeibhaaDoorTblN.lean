/- The walk of the law of the lattice. Conditions: the table of the levels lies where it is laid. -/
import Derived.Test.YtadihdkpoeibhaaDoorTblK
import Derived.Test.YtadihdkpoeibhaaDoorTblM
import Derived.Test.YtadihdkpoeibhaaDoorOpZ
import Derived.Deep.RegionHeld
namespace Go.Proofs.YtadihdkpoeibhaaDoor
set_option maxRecDepth 100000
open Go.RowKit

theorem imp_ends : ∀ x : Fin 12, impB (x.val : Int) 0 = true ∧ impB 11 (x.val : Int) = true := by decide +kernel
theorem imp_or : ∀ x z : Fin 12, impB (x.val : Int) (z.val : Int) = decide ((clN (askN (x.val : Int)) ||| askN (z.val : Int)) = clN (askN (x.val : Int))) := by decide +kernel
theorem of_name : ∀ x : Fin 12, ofN (nameN (x.val : Int)) = some x.val := by decide +kernel
theorem blw_two_shut (x y : Fin 12) : cls (blw [(x.val : Int), (y.val : Int)]) = true := by
  rw [cls_iff]
  intro a b ha hb hr hi
  unfold blw at *
  simp only [List.any_cons, List.any_nil, Bool.or_false, Bool.or_eq_true] at *
  rcases hr with h | h
  · exact .inl (imp_trans x ⟨a, ha⟩ ⟨b, hb⟩ h hi)
  · exact .inr (imp_trans y ⟨a, ha⟩ ⟨b, hb⟩ h hi)
theorem blw_two_len : ∀ x y : Fin 12, 1 ≤ (stI (blw [(x.val : Int), (y.val : Int)])).length ∧ (stI (blw [(x.val : Int), (y.val : Int)])).length ≤ 2 := by decide +kernel
theorem yields_load_rowB {ops : Array Oper} {S : World → Prop} {o : Oper} {a : Act} {g : Nat} {r : Nat → Bool} (hw : Region.wanted o (yielded ops a.tmps) = true) (x : Operand) (ho : o.op = .load 25 x)
    (hx : a.eval x = .pointer (some ⟨g, 0, none⟩)) (hS : ∀ w, S w → BRow w g r) : YieldsIf Tryd.prog ops S o (.agg (rowB r)) a :=
  .inl ⟨hw, fun w hw' => by
    unfold execOp
    simp only [ho, hx, Instr.loadAt, Instr.sureAddr, Sem.run_bind, Sem.run_pure, Result.andThen_ok, run_loadVar_row w g _ _ _ _ _ (hS w hw') Tryd.underlying25 rfl (infoRow' _)]⟩
theorem takeR {P : Program} {ops : Array Oper} {Q : Exit → Act → World → Prop} {md : Region.Mode} {S : World → Prop} (d : Option Tmp) {i : Nat} {oi : Oper} {v : Value} {fuel : Nat} {listed : Array Bool} {a : Act} {w : World} (hi : ops[i]? = some oi) (hd : oi.dst = d)
    (hs : Region.noSelect ops = true) (hf : Region.free md ops listed i = true) (hr : (Region.ready md ops listed).contains i = true)
    (hQ : ∀ c a w, Q (.panic c) (a.put oi.dst v) w → Q (.panic c) a w) (hy : YieldsIf P ops S oi v a) (hS : S w)
    (h : wpAnyH P md ops Q S fuel (listed.setIfInBounds i true) (a.put d v) w) : wpAnyH P md ops Q S (fuel + 1) listed a w := by
  subst hd; exact wpAnyH_take hi hs hf hr hQ hy hS h
theorem or_test (x z : Nat) (hx : x < 12) (hz : z < 12) : (bits .or .i64 ((clI (askN (x : Int)) : Nat) : Int) ((askN (z : Int) : Nat) : Int) == ((clI (askN (x : Int)) : Nat) : Int)) = impB (x : Int) (z : Int) := by
  have h1 := askN_lt (x : Int)
  have h2 := askN_lt (z : Int)
  have h3 := clN_lt ⟨askN (x : Int), h1⟩
  simp only at h3
  rw [clI_ask, i64_or_nat _ _ (by omega) (by omega), imp_or ⟨x, hx⟩ ⟨z, hz⟩, Bool.eq_iff_iff, beq_iff_eq, decide_eq_true_eq]
  simp only
  omega
end Go.Proofs.YtadihdkpoeibhaaDoor
