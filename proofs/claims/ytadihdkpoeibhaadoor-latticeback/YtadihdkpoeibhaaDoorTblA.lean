/- Walks of the table's smallest functions: Missing, Implies; a row of yes and no as the array that it is, and as the block that holds it. Conditions: the table of the levels lies where it is laid. -/
import Derived.Test.YtadihdkpoeibhaaDoorLevC
import Derived.Test.YtadihdkpoeibhaaDoorLevE
import Derived.Laws.Tables
import Derived.Laws.CopyOwn
import Derived.Deep.QuietTactic
import Derived.BigQuiet
namespace Go.Proofs.YtadihdkpoeibhaaDoor
set_option maxRecDepth 100000
open Go.RowKit

/-- What the second level asks, and doesn't follow of what the first one does; whether nothing is. -/
def missN (a b : Int) : Nat := askN b ^^^ (askN b &&& clN (askN a))
def impB (a b : Int) : Bool := isLv a && (isLv b && decide (missN a b = 0))
theorem clI_ask (a : Int) : clI (askN a : Int) = clN (askN a) := by
  have h := askN_lt a
  unfold clI
  have e : ((askN a : Nat) : Int) % 64 = (askN a : Int) := by omega
  rw [e, Int.toNat_natCast]
theorem lmiss_any (a b : Int) (w : World) (hK : Kinds w) : Calls Tryd.prog 28 #[.int .i64 a, .int .i64 b] w fun e w' => e = .returned (.int .i64 (missN a b)) ∧ w = w' := by
  have ha := askN_lt a
  have hb := askN_lt b
  have hc := clN_lt ⟨askN a, ha⟩
  simp only at hc
  have H : Hid (bits .andNot .i64 (askN b : Int) (clN (askN a) : Int) = (missN a b : Int)) := Lib.hid (i64_andNot_nat _ _ (by omega) (by omega))
  have CA := Lib.hid (fun l => lasks_any l w hK)
  have CC : Hid (Calls Tryd.prog 33 #[.int .i64 (askN a)] w fun e w' => e = .returned (.int .i64 (clN (askN a))) ∧ w = w') := Lib.hid (by have h := lclosed_any (askN a) w; rwa [clI_ask] at h)
  clear hK hc ha hb
  go_enter Tryd.func28, Tryd.ntmps28
  go_wp2_with (first
    | (go_at_call 32; refine (CA.out _).mono ?_; rintro e w' ⟨rfl, rfl⟩)
    | (go_at_call 33; refine (CC.out).mono ?_; rintro e w' ⟨rfl, rfl⟩))
  go_ret
  exact ⟨lret_i H.out, rfl⟩
theorem limp_any (a b : Int) (w : World) (hK : Kinds w) : Calls Tryd.prog 22 #[.int .i64 a, .int .i64 b] w fun e w' => e = .returned (.bool (impB a b)) ∧ w = w' := by
  have CM := Lib.hid (lmiss_any a b w hK)
  have H : Hid (impB a b = (isLv a && (isLv b && decide (missN a b = 0)))) := Lib.hid rfl
  have HE : Hid ((((missN a b : Nat) : Int) == 0) = decide (missN a b = 0)) := Lib.hid (by rw [Bool.eq_iff_iff, beq_iff_eq, decide_eq_true_eq]; omega)
  rw [H.out]
  clear hK H
  generalize decide (missN a b = 0) = B at *
  generalize ((missN a b : Nat) : Int) = m at *
  cases ha : isLv a
  · have C := Lib.hid (fun wx => lis_no ha wx)
    clear ha CM HE
    go_enter Tryd.func22, Tryd.ntmps22
    go_wp2_with (go_at_call 27; refine (C.out _).mono ?_; rintro e w' ⟨rfl, rfl⟩)
    go_ret
    exact ⟨rfl, rfl⟩
  · have C := Lib.hid (fun wx => lis_yes ha wx)
    cases hb : isLv b
    · have D := Lib.hid (fun wx => lis_no hb wx)
      clear ha hb CM HE
      go_enter Tryd.func22, Tryd.ntmps22
      go_wp2_with fail
      refine (C.out _).mono ?_
      rintro e w' ⟨rfl, rfl⟩
      go_wp2_with fail
      refine (D.out _).mono ?_
      rintro e w' ⟨rfl, rfl⟩
      go_wp2_with fail
      go_ret
      exact ⟨rfl, rfl⟩
    · have D := Lib.hid (fun wx => lis_yes hb wx)
      clear ha hb
      go_enter Tryd.func22, Tryd.ntmps22
      go_wp2_with fail
      refine (C.out _).mono ?_
      rintro e w' ⟨rfl, rfl⟩
      go_wp2_with fail
      refine (D.out _).mono ?_
      rintro e w' ⟨rfl, rfl⟩
      go_wp2_with fail
      refine (CM.out).mono ?_
      rintro e w' ⟨rfl, rfl⟩
      go_wp2_with fail
      go_ret
      exact ⟨lret_b HE.out, rfl⟩

/-- The array of a row of the levels. -/
def rowB (r : Nat → Bool) : Array Value := ((List.range 12).map fun i => Value.bool (r i)).toArray
theorem rowB_size (r : Nat → Bool) : (rowB r).size = 12 := by simp [rowB]
theorem rowB_at (r : Nat → Bool) {i : Nat} (hi : i < 12) : (rowB r)[i]? = some (.bool (r i)) := by simp [rowB, hi]
def rSet (r : Nat → Bool) (a : Nat) (v : Bool) : Nat → Bool := fun i => if i = a then v else r i
theorem rowB_set (r : Nat → Bool) (a : Nat) (v : Bool) : (rowB r).setIfInBounds a (.bool v) = rowB (rSet r a v) := by
  apply Array.ext_getElem?
  intro i
  by_cases hi : i < 12
  · rw [rowB_at _ hi, Array.getElem?_setIfInBounds]
    unfold rSet
    by_cases e : a = i
    · subst e; simp [rowB_size, hi]
    · rw [if_neg e, rowB_at r hi, if_neg (fun h => e h.symm)]
  · rw [Array.getElem?_eq_none (by rw [Array.size_setIfInBounds, rowB_size]; omega), Array.getElem?_eq_none (by rw [rowB_size]; omega)]
theorem rowB_congr {r s : Nat → Bool} (h : ∀ i, i < 12 → r i = s i) : rowB r = rowB s := by
  apply Array.ext_getElem?
  intro i
  by_cases hi : i < 12
  · rw [rowB_at _ hi, rowB_at _ hi, h i hi]
  · rw [Array.getElem?_eq_none (by rw [rowB_size]; omega), Array.getElem?_eq_none (by rw [rowB_size]; omega)]
def noB : Nat → Bool := fun _ => false
theorem rowB_none : rowB noB = #[.bool false, .bool false, .bool false, .bool false, .bool false, .bool false, .bool false, .bool false, .bool false, .bool false, .bool false, .bool false] := rfl
/-- The block that holds a row. -/
def BRow (w : World) (g : Nat) (r : Nat → Bool) : Prop := w.heap[g]? = some (.cells (rowB r) 25 (0, 0))
theorem BRow.cell {w : World} {g : Nat} {r : Nat → Bool} (h : BRow w g r) {i : Nat} (hi : i < 12) : w.cell? ⟨g, i, none⟩ = some (.bool (r i)) := by rw [cell_of_row w g i _ _ _ h, rowB_at r hi]
theorem BRow.free {w : World} {g : Nat} {r : Nat → Bool} (h : BRow w g r) (i : Nat) : w.frozen? ⟨g, i, none⟩ = false := frozen_of_row w g i _ _ h
theorem BRow.lt {w : World} {g : Nat} {r : Nat → Bool} (h : BRow w g r) : g < w.heap.size := by
  by_cases h0 : g < w.heap.size
  · exact h0
  · unfold BRow at h; rw [Array.getElem?_eq_none (Nat.le_of_not_lt h0)] at h; cases h
theorem BRow.below {w w' : World} {g B : Nat} {r : Nat → Bool} (h : BRow w g r) (hb : Below B w w') (hB : g < B) : BRow w' g r := by unfold BRow at *; rw [hb.block g hB, h]
theorem BRow.store {w : World} {g : Nat} {r : Nat → Bool} (h : BRow w g r) (a : Nat) (v : Bool) : BRow (w.setCell ⟨g, a, none⟩ (.bool v)) g (rSet r a v) := by
  unfold BRow at *
  rw [heap_setCell_same w g a _ _ _ h, rowB_set]
theorem BRow.other {w : World} {g : Nat} {r : Nat → Bool} (h : BRow w g r) {k : Addr} (hk : g ≠ k.block) (v : Value) : BRow (w.setCell k v) g r := by unfold BRow at *; rw [heap_setCell_other w k g v hk, h]
theorem BRow.alloc {w : World} {g : Nat} {r : Nat → Bool} (h : BRow w g r) (o : Obj) : BRow (w.alloc o) g r := by
  have hl := BRow.lt h
  unfold BRow at *; rw [Below.heap_alloc w o g hl, h]
theorem BRow.made (w : World) (r : Nat → Bool) {cs : Array Value} {g : Nat} (hg : g = w.heap.size) (hc : cs = rowB r) : BRow (w.alloc (.cells cs 25)) g r := by subst hg hc; exact heap_alloc_new w _
theorem BRow.kept {w w' : World} {g : Nat} {r : Nat → Bool} {row : Option Nat} (h : BRow w g r) (hg : w.grownBy w' row) (hne : some g ≠ row) : BRow w' g r := by
  have hl := BRow.lt h
  have := hg.block g hl hne
  unfold BRow at *
  rw [this, h]
theorem infoRow : (Tryd.prog.info? 25).map (·.size) = some 12 := by kernel_rfl
theorem infoRow' (r : Nat → Bool) : (Tryd.prog.info? 25).map (·.size) = some (rowB r).size := by rw [rowB_size]; exact infoRow
theorem rowB_one (r : Nat → Bool) : (rowB r).all (·.oneCell') = true := by
  rw [Array.all_eq_true_iff_forall_mem]
  intro v hv
  have : v ∈ (rowB r).toList := by simpa using hv
  simp only [rowB, List.toList_toArray, List.mem_map] at this
  obtain ⟨i, _, rfl⟩ := this
  rfl
theorem wpList_load_rowB {ops : Array Oper} {rest : List Oper} {o : Oper} {a : Act} {w : World} {Q : Exit → Act → World → Prop} {g : Nat} {r : Nat → Bool} (h : BRow w g r) (hgd : o.guard = none) (x : Operand) (ho : o.op = .load 25 x)
    (hx : a.eval x = .pointer (some ⟨g, 0, none⟩)) (hn : wpList Tryd.prog ops Q rest (a.put o.dst (.agg (rowB r))) w) : wpList Tryd.prog ops Q (o :: rest) a w :=
  wpList_load_row hgd 25 x ho g hx _ (rowB r) _ _ h Tryd.underlying25 rfl (infoRow' _) hn
theorem wpList_store_rowB {ops : Array Oper} {rest : List Oper} {o : Oper} {a : Act} {w : World} {Q : Exit → Act → World → Prop} {g : Nat} {s : Nat → Bool} (h : BRow w g s) (r : Nat → Bool) (hgd : o.guard = none) (x y : Operand) (ho : o.op = .store 25 x y)
    (hx : a.eval x = .pointer (some ⟨g, 0, none⟩)) (hy : a.eval y = .agg (rowB r)) (hn : wpList Tryd.prog ops Q rest (a.put o.dst undef) (w.setRow g (rowB r))) : wpList Tryd.prog ops Q (o :: rest) a w :=
  wpList_store_row hgd 25 x y ho g (rowB r) hx hy _ _ h (infoRow' _) (by rw [rowB_size, rowB_size]) (rowB_one _) hn
theorem results_rowB {fn : Func} {p : Tmp} (h : fn.results = #[.cell p 25]) (tmps : Array Value) (w : World) (g : Nat) (r : Nat → Bool)
    (hp : tmps.getD p undef = .pointer (some ⟨g, 0, none⟩)) (hg : BRow w g r) : (results fn tmps).run Tryd.prog w = .ok (.agg (rowB r)) w :=
  results_cell_row h tmps w g _ (rowB r) _ _ hp hg Tryd.underlying25 rfl (infoRow' _)
theorem BRow.setRow {w : World} {g : Nat} {r : Nat → Bool} (h : BRow w g r) (s : Nat → Bool) : BRow (w.setRow g (rowB s)) g s := setRow_heap w g _ _ _ _ h
theorem infoBool : (Tryd.prog.info? 4).map (·.size) = some 1 := by kernel_rfl
theorem run_index_rowB (r : Nat → Bool) (k : Nat) (hk : k < 12) (w : World) : (Instr.index 25 (.agg (rowB r)) (.int .i64 (k : Int))).run Tryd.prog w = .ok (.bool (r k)) w := by
  have h1 := rowB_at r hk
  obtain ⟨i, hi, hs⟩ := Option.map_eq_some_iff.1 infoBool
  simp [Instr.index, asIntOf, Sem.run_bind, run_underlying Tryd.underlying25 w, hk, sizeOf, typeInfo, hi, hs, part, isAgg, h1]
end Go.Proofs.YtadihdkpoeibhaaDoor
