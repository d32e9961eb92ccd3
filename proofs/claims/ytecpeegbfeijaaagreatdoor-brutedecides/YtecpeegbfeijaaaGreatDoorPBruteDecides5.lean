/- Walks and plain facts that the proof of the statement BruteDecides uses, joined: LeaE RelX RelY LeaF LeaG BruA BruB BruC BruD AxiA. Conditions: each theorem's own. -/
import Derived.Deep.LoopGhost
import Derived.ChangeKeysEq
import Derived.Deep.AppendLies
import Derived.Deep.RegionLaw
import Derived.RangeFuncNested
import Derived.RangeFuncCalls
import Derived.RangeFuncLeaves
import Derived.RangeFuncBound
import Derived.Shelf.Abstract
import Derived.OwnWalkIn
import Derived.TacticsInMore
import Derived.LoopNIn
import Derived.LoopIn
import Derived.ArgAppend
import Derived.Test.YtecpeegbfeijaaaGreatDoorPBruteDecides0
import Derived.Test.YtecpeegbfeijaaaGreatDoorPBruteDecides3
import Derived.Test.YtecpeegbfeijaaaGreatDoorPBruteDecides4
namespace Go.Proofs.YtecpeegbfeijaaaGreatDoor
set_option maxRecDepth 100000
open Go.RowKit

/-- What a round has come to: the start, and only what must be seen. -/
structure Grown (V A : Mat) (tr pf : Bool) (U : Mat) : Prop where
  h : ∀ i j, V i j = true → U i j = true
  m : ∀ i j, i < 64 → j < 64 → U i j = true → Must V A tr pf i j
theorem Grown.start (V A : Mat) (tr pf : Bool) : Grown V A tr pf V := ⟨fun _ _ h => h, fun _ _ _ _ h => .base h⟩
section
variable {V A U : Mat} {tr pf : Bool}
theorem Grown.next (g : Grown V A tr pf U) : Grown V A tr pf (moreM U A tr pf) := ⟨fun i j h => moreM_grows (g.h i j h), fun i j hi hj h => moreM_sound g.m i j hi hj h⟩
theorem Grown.count (_ : Grown V A tr pf U) (hf : rowsA (moreM U A tr pf) ≠ rowsA U) : cntP U < cntP (moreM U A tr pf) := cntP_lt (fun _ _ h => moreM_grows h) (fun e => hf e.symm)
theorem Grown.done (g : Grown V A tr pf U) (hf : rowsA (moreM U A tr pf) = rowsA U) : ∀ i j, i < 64 → j < 64 → (U i j = true ↔ Must V A tr pf i j) := fun i j hi hj => ⟨g.m i j hi hj, fun h => more_done (fun i j _ _ h => g.h i j h) hf h hi hj⟩
end
theorem eq_items (R S : Mat) (w : World) : ∀ (is : List Nat), (∀ i ∈ is, i < 64) → (Op.eqItems 9999 95 1 (rowsA R) (rowsA S) is).run Tryz.prog w = .ok (is.all fun i => mkS (R i) == mkS (S i)) w
  | [], _ => by simp [Op.eqItems]
  | i :: is, h => by
    have hi := h i List.mem_cons_self
    have h1 := rowsA_at R hi
    have h2 := rowsA_at S hi
    have ih := eq_items R S w is (fun j hj => h j (List.mem_cons_of_mem _ hj))
    have hp : (part 95 (rowsA R) (i * 1)).run Tryz.prog w = .ok (.int .u64 ((mkS (R i) : Nat) : Int)) w := by
      simp [part, isAgg, Sem.run_bind, run_underlying Tryz.underlying95 w, h1]
    have hp2 : (part 95 (rowsA S) (i * 1)).run Tryz.prog w = .ok (.int .u64 ((mkS (S i) : Nat) : Int)) w := by
      simp [part, isAgg, Sem.run_bind, run_underlying Tryz.underlying95 w, h2]
    have he : (Op.equalIn (9998 + 1) 95 (.int .u64 ((mkS (R i) : Nat) : Int)) (.int .u64 ((mkS (S i) : Nat) : Int))).run Tryz.prog w = .ok (mkS (R i) == mkS (S i)) w := by
      rw [run_equalIn_int w 9998 95 .u64 .u64 _ _ Tryz.underlying95]
      simp
      rw [Bool.eq_iff_iff, beq_iff_eq, beq_iff_eq]
      omega
    simp only [Op.eqItems, Sem.run_bind, hp, hp2, Result.andThen_ok]
    rw [he]
    simp only [Result.andThen_ok]
    cases hb : (mkS (R i) == mkS (S i)) with
    | true =>
      simp only [Bool.not_true, Bool.false_eq_true, if_false]
      rw [ih]; simp [hb]
    | false => simp [hb]
theorem rows_all (R S : Mat) : ((List.range 64).all fun i => mkS (R i) == mkS (S i)) = true ↔ rowsA R = rowsA S := by
  rw [List.all_eq_true]
  constructor
  · intro h
    unfold rowsA
    congr 1
    refine List.map_congr_left fun i hi => ?_
    have := h i hi
    simp only [beq_iff_eq] at this
    rw [this]
  · intro h i hi
    have hi := List.mem_range.1 hi
    have h1 := rowsA_at R hi
    rw [h, rowsA_at S hi] at h1
    have := Option.some.inj h1
    simp only [Value.int.injEq, true_and] at this
    simp; omega
theorem run_eql_yes (R S : Mat) (hf : rowsA R = rowsA S) (w : World) : (binOp .eql 97 (.agg (rowsA R)) (.agg (rowsA S))).run Tryz.prog w = .ok (.bool true) w := by
  obtain ⟨i, hi, _⟩ := Option.map_eq_some_iff.1 infoSet
  have hc : Tryz.prog.cellsOf 95 = 1 := by kernel_rfl
  rw [run_eql_struct, run_equalIn_array w 9999 (rowsA R) (rowsA S) Tryz.underlying97 hi, hc, eq_items R S w _ (fun i hi => List.mem_range.1 hi), (rows_all R S).2 hf]
  rfl
theorem run_eql_no (R S : Mat) (hf : ¬ rowsA R = rowsA S) (w : World) : (binOp .eql 97 (.agg (rowsA R)) (.agg (rowsA S))).run Tryz.prog w = .ok (.bool false) w := by
  obtain ⟨i, hi, _⟩ := Option.map_eq_some_iff.1 infoSet
  have hc : Tryz.prog.cellsOf 95 = 1 := by kernel_rfl
  have hn : ((List.range 64).all fun i => mkS (R i) == mkS (S i)) = false := by
    cases h : ((List.range 64).all fun i => mkS (R i) == mkS (S i)) with
    | false => rfl
    | true => exact absurd ((rows_all R S).1 h) hf
  rw [run_eql_struct, run_equalIn_array w 9999 (rowsA R) (rowsA S) Tryz.underlying97 hi, hc, eq_items R S w _ (fun i hi => List.mem_range.1 hi), hn]
  rfl
theorem run_guard_rel (o : BinOp) (x y : Operand) (R S : Mat) (w : World) : Sem.run Tryz.prog (eqGuard o 97 x y (.agg (rowsA R)) (.agg (rowsA S))) w = .ok () w :=
  run_eqGuard_agg w o 97 x y _ _ (by kernel_rfl)
/-- What there is at the start, by the two bits of what is asked. -/
def startQ (h : List TxnV) (x : Int) (A : Mat) (q8 q16 : Int) : Mat := if q16 = 0 then (if q8 = 0 then baseM h x else orR (baseM h x) (rivM h A)) else orR (if q8 = 0 then baseM h x else orR (baseM h x) (rivM h A)) A
def startM (h : List TxnV) (x : Int) (A : Mat) : Mat := startQ h x A (bits .and .i64 x 8) (bits .and .i64 x 16)
set_option maxRecDepth 100000 in
set_option maxHeartbeats 16000000 in
theorem lof_any (x : Int) (va : Value) (l : List Int) (h : List TxnV) (B b : Nat) (w : World) (hO : OrdIs w B b h) (hc : checkI h = 0) (ht : Tab w) (hl : Ints w va l) :
    Calls Tryz.prog 121 #[.pointer (some ⟨B, 0, none⟩), .int .i64 x, va] w fun e w' => (∃ R, e = .returned (.agg (rowsA R)) ∧ ∀ i j, i < 64 → j < 64 → (R i j = true ↔ Must (startM h x (chainR l)) (chainR l) (trB x) (pfB x) i j)) ∧ Below w.heap.size w w' := by
  have hg := ht.pos
  have HT : Hid (∀ wx, Below w.heap.size w wx → Tab wx) := Lib.hid (fun wx hb => ht.below hb hg)
  have HO := Lib.hid (fun wx (hx : Below w.heap.size w wx) => hO.below hx)
  have HC := Lib.hid hc
  obtain ⟨q8, h8⟩ : ∃ q, bits .and .i64 x 8 = q := ⟨_, rfl⟩
  obtain ⟨q16, h16⟩ : ∃ q, bits .and .i64 x 16 = q := ⟨_, rfl⟩
  have hb0 := box_below w (.cells #[.int .u64 0, .int .u64 0, .int .u64 0, .int .u64 0, .int .u64 0, .int .u64 0, .int .u64 0, .int .u64 0, .int .u64 0, .int .u64 0, .int .u64 0, .int .u64 0, .int .u64 0, .int .u64 0, .int .u64 0, .int .u64 0, .int .u64 0, .int .u64 0, .int .u64 0, .int .u64 0, .int .u64 0, .int .u64 0, .int .u64 0, .int .u64 0, .int .u64 0, .int .u64 0, .int .u64 0, .int .u64 0, .int .u64 0, .int .u64 0, .int .u64 0, .int .u64 0, .int .u64 0, .int .u64 0, .int .u64 0, .int .u64 0, .int .u64 0, .int .u64 0, .int .u64 0, .int .u64 0, .int .u64 0, .int .u64 0, .int .u64 0, .int .u64 0, .int .u64 0, .int .u64 0, .int .u64 0, .int .u64 0, .int .u64 0, .int .u64 0, .int .u64 0, .int .u64 0, .int .u64 0, .int .u64 0, .int .u64 0, .int .u64 0, .int .u64 0, .int .u64 0, .int .u64 0, .int .u64 0, .int .u64 0, .int .u64 0, .int .u64 0, .int .u64 0] 97)
  have CH := Lib.hid (chain_any va l (w.alloc (.cells #[.int .u64 0, .int .u64 0, .int .u64 0, .int .u64 0, .int .u64 0, .int .u64 0, .int .u64 0, .int .u64 0, .int .u64 0, .int .u64 0, .int .u64 0, .int .u64 0, .int .u64 0, .int .u64 0, .int .u64 0, .int .u64 0, .int .u64 0, .int .u64 0, .int .u64 0, .int .u64 0, .int .u64 0, .int .u64 0, .int .u64 0, .int .u64 0, .int .u64 0, .int .u64 0, .int .u64 0, .int .u64 0, .int .u64 0, .int .u64 0, .int .u64 0, .int .u64 0, .int .u64 0, .int .u64 0, .int .u64 0, .int .u64 0, .int .u64 0, .int .u64 0, .int .u64 0, .int .u64 0, .int .u64 0, .int .u64 0, .int .u64 0, .int .u64 0, .int .u64 0, .int .u64 0, .int .u64 0, .int .u64 0, .int .u64 0, .int .u64 0, .int .u64 0, .int .u64 0, .int .u64 0, .int .u64 0, .int .u64 0, .int .u64 0, .int .u64 0, .int .u64 0, .int .u64 0, .int .u64 0, .int .u64 0, .int .u64 0, .int .u64 0, .int .u64 0] 97)) (hl.below hb0))
  obtain ⟨ao, cap, rfl, hal⟩ := hl.form
  have HQ : Hid (startM h x (chainR l) = startQ h x (chainR l) q8 q16) := Lib.hid (by unfold startM; rw [h8, h16])
  generalize chainR l = A at *
  have z6 := zero_block w
  clear hO hc ht hl
  go_enter Tryz.func121, Tryz.ntmps121
  go_wp2_with fail
  refine (CH.out).mono ?_
  rintro e w1 ⟨rfl, hb1⟩
  have z6 := z6.below hb1 (by simp)
  have hb2 := below_then hb0 hb1
  clear hb1 hb0 CH
  have hs1 := hb2.size
  have z7 := zero_block w1
  have hl6 := z6.lt
  have z6 := (z6.alloc (.cells #[.int .u64 0, .int .u64 0, .int .u64 0, .int .u64 0, .int .u64 0, .int .u64 0, .int .u64 0, .int .u64 0, .int .u64 0, .int .u64 0, .int .u64 0, .int .u64 0, .int .u64 0, .int .u64 0, .int .u64 0, .int .u64 0, .int .u64 0, .int .u64 0, .int .u64 0, .int .u64 0, .int .u64 0, .int .u64 0, .int .u64 0, .int .u64 0, .int .u64 0, .int .u64 0, .int .u64 0, .int .u64 0, .int .u64 0, .int .u64 0, .int .u64 0, .int .u64 0, .int .u64 0, .int .u64 0, .int .u64 0, .int .u64 0, .int .u64 0, .int .u64 0, .int .u64 0, .int .u64 0, .int .u64 0, .int .u64 0, .int .u64 0, .int .u64 0, .int .u64 0, .int .u64 0, .int .u64 0, .int .u64 0, .int .u64 0, .int .u64 0, .int .u64 0, .int .u64 0, .int .u64 0, .int .u64 0, .int .u64 0, .int .u64 0, .int .u64 0, .int .u64 0, .int .u64 0, .int .u64 0, .int .u64 0, .int .u64 0, .int .u64 0, .int .u64 0] 97)).far (g' := w1.heap.size) (by omega) (rowsA A)
  have hb3 := below_setRow (hb2.alloc hb2.size (.cells #[.int .u64 0, .int .u64 0, .int .u64 0, .int .u64 0, .int .u64 0, .int .u64 0, .int .u64 0, .int .u64 0, .int .u64 0, .int .u64 0, .int .u64 0, .int .u64 0, .int .u64 0, .int .u64 0, .int .u64 0, .int .u64 0, .int .u64 0, .int .u64 0, .int .u64 0, .int .u64 0, .int .u64 0, .int .u64 0, .int .u64 0, .int .u64 0, .int .u64 0, .int .u64 0, .int .u64 0, .int .u64 0, .int .u64 0, .int .u64 0, .int .u64 0, .int .u64 0, .int .u64 0, .int .u64 0, .int .u64 0, .int .u64 0, .int .u64 0, .int .u64 0, .int .u64 0, .int .u64 0, .int .u64 0, .int .u64 0, .int .u64 0, .int .u64 0, .int .u64 0, .int .u64 0, .int .u64 0, .int .u64 0, .int .u64 0, .int .u64 0, .int .u64 0, .int .u64 0, .int .u64 0, .int .u64 0, .int .u64 0, .int .u64 0, .int .u64 0, .int .u64 0, .int .u64 0, .int .u64 0, .int .u64 0, .int .u64 0, .int .u64 0, .int .u64 0] 97)) (g := w1.heap.size) (by omega) (rowsA A)
  clear hb2
  go_upto_region 2 with (with_reducible refine wpList_store_rel z7 A rfl _ _ rfl rfl rfl ?_)
  have z7 := z7.setRow A
  generalize World.setRow _ _ _ = w2 at *
  generalize w1.heap.size = p7 at *
  have CB := Lib.hid (lbase_any x h B w2 (HO.out _ hb3).blk)
  obtain ⟨M0, hM0⟩ : ∃ M0, M0 = baseM h x := ⟨_, rfl⟩
  rw [← hM0] at CB
  have HQ : Hid (startM h x A = if q16 = 0 then (if q8 = 0 then M0 else orR M0 (rivM h A)) else orR (if q8 = 0 then M0 else orR M0 (rivM h A)) A) := Lib.hid (by rw [HQ.out, hM0]; rfl)
  clear hM0
  go_wp2_with fail
  refine (CB.out).mono ?_
  rintro e w3 ⟨rfl, hb4⟩
  have z6 := z6.below hb4 z6.lt
  have z7 := z7.below hb4 z7.lt
  have hb5 := hb3.trans (hb4.mono hb3.size)
  clear hb3 hb4 CB
  have hs3 := hb5.size
  have hl7 := z7.lt
  have hl6 := z6.lt
  have z8 := zero_block w3
  have z7 := (z7.alloc (.cells #[.int .u64 0, .int .u64 0, .int .u64 0, .int .u64 0, .int .u64 0, .int .u64 0, .int .u64 0, .int .u64 0, .int .u64 0, .int .u64 0, .int .u64 0, .int .u64 0, .int .u64 0, .int .u64 0, .int .u64 0, .int .u64 0, .int .u64 0, .int .u64 0, .int .u64 0, .int .u64 0, .int .u64 0, .int .u64 0, .int .u64 0, .int .u64 0, .int .u64 0, .int .u64 0, .int .u64 0, .int .u64 0, .int .u64 0, .int .u64 0, .int .u64 0, .int .u64 0, .int .u64 0, .int .u64 0, .int .u64 0, .int .u64 0, .int .u64 0, .int .u64 0, .int .u64 0, .int .u64 0, .int .u64 0, .int .u64 0, .int .u64 0, .int .u64 0, .int .u64 0, .int .u64 0, .int .u64 0, .int .u64 0, .int .u64 0, .int .u64 0, .int .u64 0, .int .u64 0, .int .u64 0, .int .u64 0, .int .u64 0, .int .u64 0, .int .u64 0, .int .u64 0, .int .u64 0, .int .u64 0, .int .u64 0, .int .u64 0, .int .u64 0, .int .u64 0] 97)).far (g' := w3.heap.size) (by omega) (rowsA M0)
  have z6 := (z6.alloc (.cells #[.int .u64 0, .int .u64 0, .int .u64 0, .int .u64 0, .int .u64 0, .int .u64 0, .int .u64 0, .int .u64 0, .int .u64 0, .int .u64 0, .int .u64 0, .int .u64 0, .int .u64 0, .int .u64 0, .int .u64 0, .int .u64 0, .int .u64 0, .int .u64 0, .int .u64 0, .int .u64 0, .int .u64 0, .int .u64 0, .int .u64 0, .int .u64 0, .int .u64 0, .int .u64 0, .int .u64 0, .int .u64 0, .int .u64 0, .int .u64 0, .int .u64 0, .int .u64 0, .int .u64 0, .int .u64 0, .int .u64 0, .int .u64 0, .int .u64 0, .int .u64 0, .int .u64 0, .int .u64 0, .int .u64 0, .int .u64 0, .int .u64 0, .int .u64 0, .int .u64 0, .int .u64 0, .int .u64 0, .int .u64 0, .int .u64 0, .int .u64 0, .int .u64 0, .int .u64 0, .int .u64 0, .int .u64 0, .int .u64 0, .int .u64 0, .int .u64 0, .int .u64 0, .int .u64 0, .int .u64 0, .int .u64 0, .int .u64 0, .int .u64 0, .int .u64 0] 97)).far (g' := w3.heap.size) (by omega) (rowsA M0)
  have hb := below_setRow (hb5.alloc hb5.size (.cells #[.int .u64 0, .int .u64 0, .int .u64 0, .int .u64 0, .int .u64 0, .int .u64 0, .int .u64 0, .int .u64 0, .int .u64 0, .int .u64 0, .int .u64 0, .int .u64 0, .int .u64 0, .int .u64 0, .int .u64 0, .int .u64 0, .int .u64 0, .int .u64 0, .int .u64 0, .int .u64 0, .int .u64 0, .int .u64 0, .int .u64 0, .int .u64 0, .int .u64 0, .int .u64 0, .int .u64 0, .int .u64 0, .int .u64 0, .int .u64 0, .int .u64 0, .int .u64 0, .int .u64 0, .int .u64 0, .int .u64 0, .int .u64 0, .int .u64 0, .int .u64 0, .int .u64 0, .int .u64 0, .int .u64 0, .int .u64 0, .int .u64 0, .int .u64 0, .int .u64 0, .int .u64 0, .int .u64 0, .int .u64 0, .int .u64 0, .int .u64 0, .int .u64 0, .int .u64 0, .int .u64 0, .int .u64 0, .int .u64 0, .int .u64 0, .int .u64 0, .int .u64 0, .int .u64 0, .int .u64 0, .int .u64 0, .int .u64 0, .int .u64 0, .int .u64 0] 97)) (g := w3.heap.size) (by omega) (rowsA M0)
  clear hb5
  go_upto_region 3 with (with_reducible refine wpList_store_rel z8 M0 rfl _ _ rfl rfl rfl ?_)
  have z8 := z8.setRow M0
  generalize World.setRow _ _ _ = w4 at *
  generalize w3.heap.size = p8 at *
  by_cases e8 : q8 = 0
  · subst e8
    go_upto_region 5 with fail
    by_cases e16 : q16 = 0
    · have HE2 : Hid ((M0) = startM h x A) := Lib.hid (by rw [HQ.out]; rw [if_pos e16, if_pos rfl])
      subst e16
      obtain ⟨V, hV⟩ : ∃ V, V = M0 := ⟨_, rfl⟩
      have HE : Hid (V = startM h x A) := Lib.hid (by rw [hV]; exact HE2.out)
      rw [← hV] at z8
      clear hV HE2
      go_wp2_with fail
      go_loopg [] (4096 - cntP V) (fun g wx => ∃ U : Mat, 4096 ≤ g + cntP U ∧ RelAt wx p8 97 U ∧ RelAt wx p7 97 A ∧ RelAt wx w.heap.size 97 noR ∧ Grown V A (trB x) (pfB x) U ∧ Below w.heap.size w wx)
      case atStart => exact ⟨V, by have := cntP_le V; omega, z8, z7, z6, Grown.start V A _ _, hb⟩
      case round =>
        obtain ⟨U, hg, y8, y7, y6, hGr, hbr⟩ := hrel
        clear z8 z7 z6 hb
        have hTr := HT.out _ hbr
        go_wp2_with (first | (with_reducible refine wpList_load_rel y8 rfl _ rfl rfl ?_) | (with_reducible refine wpList_load_rel y7 rfl _ rfl rfl ?_))
        refine (lmore_any x U A _ hTr).mono ?_
        rintro e w5 ⟨rfl, hb5⟩
        have y8 := y8.below hb5 y8.lt
        have y7 := y7.below hb5 y7.lt
        have y6 := y6.below hb5 y6.lt
        have hb6 := hbr.trans (hb5.mono hbr.size)
        have hl8 := y8.lt
        have hGn := hGr.next
        have hGc := hGr.count
        have hGd := hGr.done
        have HG := Lib.hid (And.intro hGn (And.intro hGc hGd))
        clear hGn hGc hGd hGr hbr hb5 hTr
        generalize moreM U A (trB x) (pfB x) = N at *
        have z9 := zero_block w5
        have hs6 := hb6.size
        have y8 := (y8.alloc (.cells #[.int .u64 0, .int .u64 0, .int .u64 0, .int .u64 0, .int .u64 0, .int .u64 0, .int .u64 0, .int .u64 0, .int .u64 0, .int .u64 0, .int .u64 0, .int .u64 0, .int .u64 0, .int .u64 0, .int .u64 0, .int .u64 0, .int .u64 0, .int .u64 0, .int .u64 0, .int .u64 0, .int .u64 0, .int .u64 0, .int .u64 0, .int .u64 0, .int .u64 0, .int .u64 0, .int .u64 0, .int .u64 0, .int .u64 0, .int .u64 0, .int .u64 0, .int .u64 0, .int .u64 0, .int .u64 0, .int .u64 0, .int .u64 0, .int .u64 0, .int .u64 0, .int .u64 0, .int .u64 0, .int .u64 0, .int .u64 0, .int .u64 0, .int .u64 0, .int .u64 0, .int .u64 0, .int .u64 0, .int .u64 0, .int .u64 0, .int .u64 0, .int .u64 0, .int .u64 0, .int .u64 0, .int .u64 0, .int .u64 0, .int .u64 0, .int .u64 0, .int .u64 0, .int .u64 0, .int .u64 0, .int .u64 0, .int .u64 0, .int .u64 0, .int .u64 0] 97)).far (g' := w5.heap.size) (by omega) (rowsA N)
        have y7 := (y7.alloc (.cells #[.int .u64 0, .int .u64 0, .int .u64 0, .int .u64 0, .int .u64 0, .int .u64 0, .int .u64 0, .int .u64 0, .int .u64 0, .int .u64 0, .int .u64 0, .int .u64 0, .int .u64 0, .int .u64 0, .int .u64 0, .int .u64 0, .int .u64 0, .int .u64 0, .int .u64 0, .int .u64 0, .int .u64 0, .int .u64 0, .int .u64 0, .int .u64 0, .int .u64 0, .int .u64 0, .int .u64 0, .int .u64 0, .int .u64 0, .int .u64 0, .int .u64 0, .int .u64 0, .int .u64 0, .int .u64 0, .int .u64 0, .int .u64 0, .int .u64 0, .int .u64 0, .int .u64 0, .int .u64 0, .int .u64 0, .int .u64 0, .int .u64 0, .int .u64 0, .int .u64 0, .int .u64 0, .int .u64 0, .int .u64 0, .int .u64 0, .int .u64 0, .int .u64 0, .int .u64 0, .int .u64 0, .int .u64 0, .int .u64 0, .int .u64 0, .int .u64 0, .int .u64 0, .int .u64 0, .int .u64 0, .int .u64 0, .int .u64 0, .int .u64 0, .int .u64 0] 97)).far (g' := w5.heap.size) (by omega) (rowsA N)
        have y6 := (y6.alloc (.cells #[.int .u64 0, .int .u64 0, .int .u64 0, .int .u64 0, .int .u64 0, .int .u64 0, .int .u64 0, .int .u64 0, .int .u64 0, .int .u64 0, .int .u64 0, .int .u64 0, .int .u64 0, .int .u64 0, .int .u64 0, .int .u64 0, .int .u64 0, .int .u64 0, .int .u64 0, .int .u64 0, .int .u64 0, .int .u64 0, .int .u64 0, .int .u64 0, .int .u64 0, .int .u64 0, .int .u64 0, .int .u64 0, .int .u64 0, .int .u64 0, .int .u64 0, .int .u64 0, .int .u64 0, .int .u64 0, .int .u64 0, .int .u64 0, .int .u64 0, .int .u64 0, .int .u64 0, .int .u64 0, .int .u64 0, .int .u64 0, .int .u64 0, .int .u64 0, .int .u64 0, .int .u64 0, .int .u64 0, .int .u64 0, .int .u64 0, .int .u64 0, .int .u64 0, .int .u64 0, .int .u64 0, .int .u64 0, .int .u64 0, .int .u64 0, .int .u64 0, .int .u64 0, .int .u64 0, .int .u64 0, .int .u64 0, .int .u64 0, .int .u64 0, .int .u64 0] 97)).far (g' := w5.heap.size) (by omega) (rowsA N)
        have hb7 := below_setRow (hb6.alloc hb6.size (.cells #[.int .u64 0, .int .u64 0, .int .u64 0, .int .u64 0, .int .u64 0, .int .u64 0, .int .u64 0, .int .u64 0, .int .u64 0, .int .u64 0, .int .u64 0, .int .u64 0, .int .u64 0, .int .u64 0, .int .u64 0, .int .u64 0, .int .u64 0, .int .u64 0, .int .u64 0, .int .u64 0, .int .u64 0, .int .u64 0, .int .u64 0, .int .u64 0, .int .u64 0, .int .u64 0, .int .u64 0, .int .u64 0, .int .u64 0, .int .u64 0, .int .u64 0, .int .u64 0, .int .u64 0, .int .u64 0, .int .u64 0, .int .u64 0, .int .u64 0, .int .u64 0, .int .u64 0, .int .u64 0, .int .u64 0, .int .u64 0, .int .u64 0, .int .u64 0, .int .u64 0, .int .u64 0, .int .u64 0, .int .u64 0, .int .u64 0, .int .u64 0, .int .u64 0, .int .u64 0, .int .u64 0, .int .u64 0, .int .u64 0, .int .u64 0, .int .u64 0, .int .u64 0, .int .u64 0, .int .u64 0, .int .u64 0, .int .u64 0, .int .u64 0, .int .u64 0] 97)) (g := w5.heap.size) (by omega) (rowsA N)
        clear hb6
        go_upto_region 8 with (with_reducible refine wpList_store_rel z9 N rfl _ _ rfl rfl rfl ?_)
        have z9 := z9.setRow N
        generalize World.setRow _ _ _ = w6 at *
        have hl9 := z9.lt
        by_cases hf : rowsA N = rowsA U
        · have E0 := fun w => run_eql_yes N U hf w
          have G0 := fun (x y : Operand) (w : World) => run_guard_rel .eql x y N U w
          have HF := Lib.hid hf
          clear hf
          go_wp2_with (first | (with_reducible refine wpList_load_rel z9 rfl _ rfl rfl ?_) | (with_reducible refine wpList_load_rel y8 rfl _ rfl rfl ?_) | (with_reducible refine wpList_store_rel y6 U rfl _ _ rfl rfl rfl ?_))
          have h3 := y6.setRow U
          exact bodyPost_ret (results_rel rfl _ _ _ _ rfl h3) rfl ⟨⟨U, rfl, by rw [← HE.out]; exact (HG.out.2.2 HF.out)⟩, below_setRow hb7 (Nat.le_refl _) _⟩
        · have E0 := fun w => run_eql_no N U hf w
          have G0 := fun (x y : Operand) (w : World) => run_guard_rel .eql x y N U w
          have HF := Lib.hid hf
          have hcn := HG.out.2.1 hf
          have hcl := cntP_le N
          have hgk : 0 < gk := by omega
          have hgm : 4096 ≤ (gk - 1) + cntP N := by omega
          have y7 := y7.far (g' := p8) (by omega) (rowsA N)
          have y6 := y6.far (g' := p8) (by omega) (rowsA N)
          have hb8 := below_setRow hb7 (g := p8) (by omega) (rowsA N)
          have HG2 := Lib.hid HG.out.1
          clear hf hcn hcl HG HF
          go_wp2_with (first | (with_reducible refine wpList_load_rel z9 rfl _ rfl rfl ?_) | (with_reducible refine wpList_load_rel y8 rfl _ rfl rfl ?_) | (with_reducible refine wpList_store_rel y8 N rfl _ _ rfl rfl rfl ?_))
          have y8 := y8.setRow N
          go_roundg (gk - 1)
          case measure => omega
          case rel => exact ⟨N, hgm, y8, y7, y6, HG2.out, hb8⟩
    · have HE2 : Hid ((orR (M0) A) = startM h x A) := Lib.hid (by rw [HQ.out]; rw [if_neg e16, if_pos rfl])
      go_wp2_with (first | (with_reducible refine wpList_load_rel z8 rfl _ rfl rfl ?_) | (with_reducible refine wpList_load_rel z7 rfl _ rfl rfl ?_))
      refine (union_any (M0) A _).mono ?_
      rintro e wu ⟨rfl, hbu⟩
      have z8 := z8.below hbu z8.lt
      have z7 := (z7.below hbu z7.lt).far (g' := p8) (by omega) (rowsA (orR (M0) A))
      have z6 := (z6.below hbu z6.lt).far (g' := p8) (by omega) (rowsA (orR (M0) A))
      have hb := below_setRow (hb.trans (hbu.mono hb.size)) (g := p8) (by omega) (rowsA (orR (M0) A))
      clear hbu
      go_wp2_with (with_reducible refine wpList_store_rel z8 (orR (M0) A) rfl _ _ rfl rfl rfl ?_)
      have z8 := z8.setRow (orR (M0) A)
      generalize World.setRow _ _ _ = wv at *
      obtain ⟨V, hV⟩ : ∃ V, V = orR (M0) A := ⟨_, rfl⟩
      have HE : Hid (V = startM h x A) := Lib.hid (by rw [hV]; exact HE2.out)
      rw [← hV] at z8
      clear hV HE2
      simp only [Act.put]
      go_loopg [] (4096 - cntP V) (fun g wx => ∃ U : Mat, 4096 ≤ g + cntP U ∧ RelAt wx p8 97 U ∧ RelAt wx p7 97 A ∧ RelAt wx w.heap.size 97 noR ∧ Grown V A (trB x) (pfB x) U ∧ Below w.heap.size w wx)
      case atStart => exact ⟨V, by have := cntP_le V; omega, z8, z7, z6, Grown.start V A _ _, hb⟩
      case round =>
        obtain ⟨U, hg, y8, y7, y6, hGr, hbr⟩ := hrel
        clear z8 z7 z6 hb
        have hTr := HT.out _ hbr
        go_wp2_with (first | (with_reducible refine wpList_load_rel y8 rfl _ rfl rfl ?_) | (with_reducible refine wpList_load_rel y7 rfl _ rfl rfl ?_))
        refine (lmore_any x U A _ hTr).mono ?_
        rintro e w5 ⟨rfl, hb5⟩
        have y8 := y8.below hb5 y8.lt
        have y7 := y7.below hb5 y7.lt
        have y6 := y6.below hb5 y6.lt
        have hb6 := hbr.trans (hb5.mono hbr.size)
        have hl8 := y8.lt
        have hGn := hGr.next
        have hGc := hGr.count
        have hGd := hGr.done
        have HG := Lib.hid (And.intro hGn (And.intro hGc hGd))
        clear hGn hGc hGd hGr hbr hb5 hTr
        generalize moreM U A (trB x) (pfB x) = N at *
        have z9 := zero_block w5
        have hs6 := hb6.size
        have y8 := (y8.alloc (.cells #[.int .u64 0, .int .u64 0, .int .u64 0, .int .u64 0, .int .u64 0, .int .u64 0, .int .u64 0, .int .u64 0, .int .u64 0, .int .u64 0, .int .u64 0, .int .u64 0, .int .u64 0, .int .u64 0, .int .u64 0, .int .u64 0, .int .u64 0, .int .u64 0, .int .u64 0, .int .u64 0, .int .u64 0, .int .u64 0, .int .u64 0, .int .u64 0, .int .u64 0, .int .u64 0, .int .u64 0, .int .u64 0, .int .u64 0, .int .u64 0, .int .u64 0, .int .u64 0, .int .u64 0, .int .u64 0, .int .u64 0, .int .u64 0, .int .u64 0, .int .u64 0, .int .u64 0, .int .u64 0, .int .u64 0, .int .u64 0, .int .u64 0, .int .u64 0, .int .u64 0, .int .u64 0, .int .u64 0, .int .u64 0, .int .u64 0, .int .u64 0, .int .u64 0, .int .u64 0, .int .u64 0, .int .u64 0, .int .u64 0, .int .u64 0, .int .u64 0, .int .u64 0, .int .u64 0, .int .u64 0, .int .u64 0, .int .u64 0, .int .u64 0, .int .u64 0] 97)).far (g' := w5.heap.size) (by omega) (rowsA N)
        have y7 := (y7.alloc (.cells #[.int .u64 0, .int .u64 0, .int .u64 0, .int .u64 0, .int .u64 0, .int .u64 0, .int .u64 0, .int .u64 0, .int .u64 0, .int .u64 0, .int .u64 0, .int .u64 0, .int .u64 0, .int .u64 0, .int .u64 0, .int .u64 0, .int .u64 0, .int .u64 0, .int .u64 0, .int .u64 0, .int .u64 0, .int .u64 0, .int .u64 0, .int .u64 0, .int .u64 0, .int .u64 0, .int .u64 0, .int .u64 0, .int .u64 0, .int .u64 0, .int .u64 0, .int .u64 0, .int .u64 0, .int .u64 0, .int .u64 0, .int .u64 0, .int .u64 0, .int .u64 0, .int .u64 0, .int .u64 0, .int .u64 0, .int .u64 0, .int .u64 0, .int .u64 0, .int .u64 0, .int .u64 0, .int .u64 0, .int .u64 0, .int .u64 0, .int .u64 0, .int .u64 0, .int .u64 0, .int .u64 0, .int .u64 0, .int .u64 0, .int .u64 0, .int .u64 0, .int .u64 0, .int .u64 0, .int .u64 0, .int .u64 0, .int .u64 0, .int .u64 0, .int .u64 0] 97)).far (g' := w5.heap.size) (by omega) (rowsA N)
        have y6 := (y6.alloc (.cells #[.int .u64 0, .int .u64 0, .int .u64 0, .int .u64 0, .int .u64 0, .int .u64 0, .int .u64 0, .int .u64 0, .int .u64 0, .int .u64 0, .int .u64 0, .int .u64 0, .int .u64 0, .int .u64 0, .int .u64 0, .int .u64 0, .int .u64 0, .int .u64 0, .int .u64 0, .int .u64 0, .int .u64 0, .int .u64 0, .int .u64 0, .int .u64 0, .int .u64 0, .int .u64 0, .int .u64 0, .int .u64 0, .int .u64 0, .int .u64 0, .int .u64 0, .int .u64 0, .int .u64 0, .int .u64 0, .int .u64 0, .int .u64 0, .int .u64 0, .int .u64 0, .int .u64 0, .int .u64 0, .int .u64 0, .int .u64 0, .int .u64 0, .int .u64 0, .int .u64 0, .int .u64 0, .int .u64 0, .int .u64 0, .int .u64 0, .int .u64 0, .int .u64 0, .int .u64 0, .int .u64 0, .int .u64 0, .int .u64 0, .int .u64 0, .int .u64 0, .int .u64 0, .int .u64 0, .int .u64 0, .int .u64 0, .int .u64 0, .int .u64 0, .int .u64 0] 97)).far (g' := w5.heap.size) (by omega) (rowsA N)
        have hb7 := below_setRow (hb6.alloc hb6.size (.cells #[.int .u64 0, .int .u64 0, .int .u64 0, .int .u64 0, .int .u64 0, .int .u64 0, .int .u64 0, .int .u64 0, .int .u64 0, .int .u64 0, .int .u64 0, .int .u64 0, .int .u64 0, .int .u64 0, .int .u64 0, .int .u64 0, .int .u64 0, .int .u64 0, .int .u64 0, .int .u64 0, .int .u64 0, .int .u64 0, .int .u64 0, .int .u64 0, .int .u64 0, .int .u64 0, .int .u64 0, .int .u64 0, .int .u64 0, .int .u64 0, .int .u64 0, .int .u64 0, .int .u64 0, .int .u64 0, .int .u64 0, .int .u64 0, .int .u64 0, .int .u64 0, .int .u64 0, .int .u64 0, .int .u64 0, .int .u64 0, .int .u64 0, .int .u64 0, .int .u64 0, .int .u64 0, .int .u64 0, .int .u64 0, .int .u64 0, .int .u64 0, .int .u64 0, .int .u64 0, .int .u64 0, .int .u64 0, .int .u64 0, .int .u64 0, .int .u64 0, .int .u64 0, .int .u64 0, .int .u64 0, .int .u64 0, .int .u64 0, .int .u64 0, .int .u64 0] 97)) (g := w5.heap.size) (by omega) (rowsA N)
        clear hb6
        go_upto_region 8 with (with_reducible refine wpList_store_rel z9 N rfl _ _ rfl rfl rfl ?_)
        have z9 := z9.setRow N
        generalize World.setRow _ _ _ = w6 at *
        have hl9 := z9.lt
        by_cases hf : rowsA N = rowsA U
        · have E0 := fun w => run_eql_yes N U hf w
          have G0 := fun (x y : Operand) (w : World) => run_guard_rel .eql x y N U w
          have HF := Lib.hid hf
          clear hf
          go_wp2_with (first | (with_reducible refine wpList_load_rel z9 rfl _ rfl rfl ?_) | (with_reducible refine wpList_load_rel y8 rfl _ rfl rfl ?_) | (with_reducible refine wpList_store_rel y6 U rfl _ _ rfl rfl rfl ?_))
          have h3 := y6.setRow U
          exact bodyPost_ret (results_rel rfl _ _ _ _ rfl h3) rfl ⟨⟨U, rfl, by rw [← HE.out]; exact (HG.out.2.2 HF.out)⟩, below_setRow hb7 (Nat.le_refl _) _⟩
        · have E0 := fun w => run_eql_no N U hf w
          have G0 := fun (x y : Operand) (w : World) => run_guard_rel .eql x y N U w
          have HF := Lib.hid hf
          have hcn := HG.out.2.1 hf
          have hcl := cntP_le N
          have hgk : 0 < gk := by omega
          have hgm : 4096 ≤ (gk - 1) + cntP N := by omega
          have y7 := y7.far (g' := p8) (by omega) (rowsA N)
          have y6 := y6.far (g' := p8) (by omega) (rowsA N)
          have hb8 := below_setRow hb7 (g := p8) (by omega) (rowsA N)
          have HG2 := Lib.hid HG.out.1
          clear hf hcn hcl HG HF
          go_wp2_with (first | (with_reducible refine wpList_load_rel z9 rfl _ rfl rfl ?_) | (with_reducible refine wpList_load_rel y8 rfl _ rfl rfl ?_) | (with_reducible refine wpList_store_rel y8 N rfl _ _ rfl rfl rfl ?_))
          have y8 := y8.setRow N
          go_roundg (gk - 1)
          case measure => omega
          case rel => exact ⟨N, hgm, y8, y7, y6, HG2.out, hb8⟩
  · go_upto_region 4 with fail
    have kd := (Below.refl w4.heap.size w4).drew
    have HV : Hid (∀ wx, Below w4.heap.size w4 wx → RelAt wx p8 97 (M0)) := Lib.hid (fun wx hx => z8.below hx z8.lt)
    have HA : Hid (∀ wx, Below w4.heap.size w4 wx → RelAt wx p7 97 A) := Lib.hid (fun wx hx => z7.below hx z7.lt)
    have HZ : Hid (∀ wx, Below w4.heap.size w4 wx → RelAt wx w.heap.size 97 noR) := Lib.hid (fun wx hx => z6.below hx z6.lt)
    have HB := Lib.hid (fun wx (hx : Below w4.heap.size w4 wx) => hb.trans (hx.mono hb.size))
    have CR := Lib.hid (fun wx (hx : Below w4.heap.size w4 wx) => lrivals_any A h B b wx (HO.out wx (hb.trans (hx.mono hb.size))) HC.out)
    clear z6 z7 z8 hb
    refine wp_region_held_drew (S := fun wx => RelAt wx p7 97 A) (by kernel_rfl) (HA.out _ kd) (fun hS0 => ?_)
    refine takeG (some 19) (i := 1) (v := ?v1) rfl rfl (by kernel_rfl) (by kernel_rfl) (by kernel_rfl) (fun _ _ _ h => h) (Or.inl ⟨by rfl, ?h1⟩) hS0 ?r1
    case h1 => (intro w hw; go_simp; try (with_reducible rfl))
    try simp only [Act.put, List.setIfInBounds_toArray, List.set_cons_zero, List.set_cons_succ]
    refine takeG (some 20) (i := 2) (v := _) rfl rfl (by kernel_rfl) (by kernel_rfl) (by kernel_rfl) (fun _ _ _ h => h) (yields_rel (by rfl) _ rfl rfl (fun wx hx => hx)) hS0 ?_
    try simp only [Act.put, List.setIfInBounds_toArray, List.set_cons_zero, List.set_cons_succ]
    refine wpAnyH_ready (rs := [0, 3]) (by kernel_rfl) (by simp) ?_
    refine AllReadyH.cons rfl (fun K hK => ?_) (AllReadyH.cons rfl (fun K hK => ?_) AllReadyH.nil)
    ·
      rw [if_pos (by rfl)]
      refine wp_load_rel (HV.out _ kd) _ rfl rfl ?_
      refine hK.out _ _ hS0 (fun _ => ?_)
      clear hK K
      refine wpAnyH_ready (rs := [3]) (by kernel_rfl) (by simp) ?_
      refine AllReadyH.cons rfl (fun K hK => ?_) AllReadyH.nil
      go_simp
      refine (CR.out _ kd).mono ?_
      rintro e q1 ⟨rfl, hq1⟩
      show K _ _
      have k1 := below_then kd hq1
      have s1 := HA.out _ k1
      refine hK.out _ _ s1 (fun _ => ?_)
      clear hK K
      refine wpAnyH_ready (rs := [4]) (by kernel_rfl) (by simp) ?_
      refine AllReadyH.cons rfl (fun K hK => ?_) AllReadyH.nil
      go_simp
      refine (union_any (M0) (rivM h A) _).mono ?_
      rintro e q2 ⟨rfl, hq2⟩
      show K _ _
      have k2 := below_then k1 hq2
      have s2 := HA.out _ k2
      refine hK.out _ _ s2 (fun _ => ?_)
      clear hK K
      refine wpAnyH_ready (rs := [5]) (by kernel_rfl) (by simp) ?_
      refine AllReadyH.cons rfl (fun K hK => ?_) AllReadyH.nil
      rw [if_pos (by rfl)]
      refine wp_store_rel (HV.out _ k2) (orR (M0) (rivM h A)) _ _ rfl rfl rfl ?_
      refine hK.out _ _ ((HA.out _ k2).far (by omega) _) (fun _ => ?_)
      clear hK K
      refine wpAnyH_done (by kernel_rfl) ?_ _
      have z8 := (HV.out _ k2).setRow (orR (M0) (rivM h A))
      have z7 := (HA.out _ k2).far (g' := p8) (by omega) (rowsA (orR (M0) (rivM h A)))
      have z6 := (HZ.out _ k2).far (g' := p8) (by omega) (rowsA (orR (M0) (rivM h A)))
      have hb := below_setRow (HB.out _ k2) (g := p8) (by omega) (rowsA (orR (M0) (rivM h A)))
      generalize World.setRow _ _ _ = w6 at *
      clear HV HA HZ HB CR kd
      go_upto_region 5 with fail
      by_cases e16 : q16 = 0
      · have HE2 : Hid ((orR (M0) (rivM h A)) = startM h x A) := Lib.hid (by rw [HQ.out]; rw [if_pos e16, if_neg e8])
        subst e16
        obtain ⟨V, hV⟩ : ∃ V, V = orR (M0) (rivM h A) := ⟨_, rfl⟩
        have HE : Hid (V = startM h x A) := Lib.hid (by rw [hV]; exact HE2.out)
        rw [← hV] at z8
        clear hV HE2
        go_wp2_with fail
        go_loopg [] (4096 - cntP V) (fun g wx => ∃ U : Mat, 4096 ≤ g + cntP U ∧ RelAt wx p8 97 U ∧ RelAt wx p7 97 A ∧ RelAt wx w.heap.size 97 noR ∧ Grown V A (trB x) (pfB x) U ∧ Below w.heap.size w wx)
        case atStart => exact ⟨V, by have := cntP_le V; omega, z8, z7, z6, Grown.start V A _ _, hb⟩
        case round =>
          obtain ⟨U, hg, y8, y7, y6, hGr, hbr⟩ := hrel
          clear z8 z7 z6 hb
          have hTr := HT.out _ hbr
          go_wp2_with (first | (with_reducible refine wpList_load_rel y8 rfl _ rfl rfl ?_) | (with_reducible refine wpList_load_rel y7 rfl _ rfl rfl ?_))
          refine (lmore_any x U A _ hTr).mono ?_
          rintro e w5 ⟨rfl, hb5⟩
          have y8 := y8.below hb5 y8.lt
          have y7 := y7.below hb5 y7.lt
          have y6 := y6.below hb5 y6.lt
          have hb6 := hbr.trans (hb5.mono hbr.size)
          have hl8 := y8.lt
          have hGn := hGr.next
          have hGc := hGr.count
          have hGd := hGr.done
          have HG := Lib.hid (And.intro hGn (And.intro hGc hGd))
          clear hGn hGc hGd hGr hbr hb5 hTr
          generalize moreM U A (trB x) (pfB x) = N at *
          have z9 := zero_block w5
          have hs6 := hb6.size
          have y8 := (y8.alloc (.cells #[.int .u64 0, .int .u64 0, .int .u64 0, .int .u64 0, .int .u64 0, .int .u64 0, .int .u64 0, .int .u64 0, .int .u64 0, .int .u64 0, .int .u64 0, .int .u64 0, .int .u64 0, .int .u64 0, .int .u64 0, .int .u64 0, .int .u64 0, .int .u64 0, .int .u64 0, .int .u64 0, .int .u64 0, .int .u64 0, .int .u64 0, .int .u64 0, .int .u64 0, .int .u64 0, .int .u64 0, .int .u64 0, .int .u64 0, .int .u64 0, .int .u64 0, .int .u64 0, .int .u64 0, .int .u64 0, .int .u64 0, .int .u64 0, .int .u64 0, .int .u64 0, .int .u64 0, .int .u64 0, .int .u64 0, .int .u64 0, .int .u64 0, .int .u64 0, .int .u64 0, .int .u64 0, .int .u64 0, .int .u64 0, .int .u64 0, .int .u64 0, .int .u64 0, .int .u64 0, .int .u64 0, .int .u64 0, .int .u64 0, .int .u64 0, .int .u64 0, .int .u64 0, .int .u64 0, .int .u64 0, .int .u64 0, .int .u64 0, .int .u64 0, .int .u64 0] 97)).far (g' := w5.heap.size) (by omega) (rowsA N)
          have y7 := (y7.alloc (.cells #[.int .u64 0, .int .u64 0, .int .u64 0, .int .u64 0, .int .u64 0, .int .u64 0, .int .u64 0, .int .u64 0, .int .u64 0, .int .u64 0, .int .u64 0, .int .u64 0, .int .u64 0, .int .u64 0, .int .u64 0, .int .u64 0, .int .u64 0, .int .u64 0, .int .u64 0, .int .u64 0, .int .u64 0, .int .u64 0, .int .u64 0, .int .u64 0, .int .u64 0, .int .u64 0, .int .u64 0, .int .u64 0, .int .u64 0, .int .u64 0, .int .u64 0, .int .u64 0, .int .u64 0, .int .u64 0, .int .u64 0, .int .u64 0, .int .u64 0, .int .u64 0, .int .u64 0, .int .u64 0, .int .u64 0, .int .u64 0, .int .u64 0, .int .u64 0, .int .u64 0, .int .u64 0, .int .u64 0, .int .u64 0, .int .u64 0, .int .u64 0, .int .u64 0, .int .u64 0, .int .u64 0, .int .u64 0, .int .u64 0, .int .u64 0, .int .u64 0, .int .u64 0, .int .u64 0, .int .u64 0, .int .u64 0, .int .u64 0, .int .u64 0, .int .u64 0] 97)).far (g' := w5.heap.size) (by omega) (rowsA N)
          have y6 := (y6.alloc (.cells #[.int .u64 0, .int .u64 0, .int .u64 0, .int .u64 0, .int .u64 0, .int .u64 0, .int .u64 0, .int .u64 0, .int .u64 0, .int .u64 0, .int .u64 0, .int .u64 0, .int .u64 0, .int .u64 0, .int .u64 0, .int .u64 0, .int .u64 0, .int .u64 0, .int .u64 0, .int .u64 0, .int .u64 0, .int .u64 0, .int .u64 0, .int .u64 0, .int .u64 0, .int .u64 0, .int .u64 0, .int .u64 0, .int .u64 0, .int .u64 0, .int .u64 0, .int .u64 0, .int .u64 0, .int .u64 0, .int .u64 0, .int .u64 0, .int .u64 0, .int .u64 0, .int .u64 0, .int .u64 0, .int .u64 0, .int .u64 0, .int .u64 0, .int .u64 0, .int .u64 0, .int .u64 0, .int .u64 0, .int .u64 0, .int .u64 0, .int .u64 0, .int .u64 0, .int .u64 0, .int .u64 0, .int .u64 0, .int .u64 0, .int .u64 0, .int .u64 0, .int .u64 0, .int .u64 0, .int .u64 0, .int .u64 0, .int .u64 0, .int .u64 0, .int .u64 0] 97)).far (g' := w5.heap.size) (by omega) (rowsA N)
          have hb7 := below_setRow (hb6.alloc hb6.size (.cells #[.int .u64 0, .int .u64 0, .int .u64 0, .int .u64 0, .int .u64 0, .int .u64 0, .int .u64 0, .int .u64 0, .int .u64 0, .int .u64 0, .int .u64 0, .int .u64 0, .int .u64 0, .int .u64 0, .int .u64 0, .int .u64 0, .int .u64 0, .int .u64 0, .int .u64 0, .int .u64 0, .int .u64 0, .int .u64 0, .int .u64 0, .int .u64 0, .int .u64 0, .int .u64 0, .int .u64 0, .int .u64 0, .int .u64 0, .int .u64 0, .int .u64 0, .int .u64 0, .int .u64 0, .int .u64 0, .int .u64 0, .int .u64 0, .int .u64 0, .int .u64 0, .int .u64 0, .int .u64 0, .int .u64 0, .int .u64 0, .int .u64 0, .int .u64 0, .int .u64 0, .int .u64 0, .int .u64 0, .int .u64 0, .int .u64 0, .int .u64 0, .int .u64 0, .int .u64 0, .int .u64 0, .int .u64 0, .int .u64 0, .int .u64 0, .int .u64 0, .int .u64 0, .int .u64 0, .int .u64 0, .int .u64 0, .int .u64 0, .int .u64 0, .int .u64 0] 97)) (g := w5.heap.size) (by omega) (rowsA N)
          clear hb6
          go_upto_region 8 with (with_reducible refine wpList_store_rel z9 N rfl _ _ rfl rfl rfl ?_)
          have z9 := z9.setRow N
          generalize World.setRow _ _ _ = w6 at *
          have hl9 := z9.lt
          by_cases hf : rowsA N = rowsA U
          · have E0 := fun w => run_eql_yes N U hf w
            have G0 := fun (x y : Operand) (w : World) => run_guard_rel .eql x y N U w
            have HF := Lib.hid hf
            clear hf
            go_wp2_with (first | (with_reducible refine wpList_load_rel z9 rfl _ rfl rfl ?_) | (with_reducible refine wpList_load_rel y8 rfl _ rfl rfl ?_) | (with_reducible refine wpList_store_rel y6 U rfl _ _ rfl rfl rfl ?_))
            have h3 := y6.setRow U
            exact bodyPost_ret (results_rel rfl _ _ _ _ rfl h3) rfl ⟨⟨U, rfl, by rw [← HE.out]; exact (HG.out.2.2 HF.out)⟩, below_setRow hb7 (Nat.le_refl _) _⟩
          · have E0 := fun w => run_eql_no N U hf w
            have G0 := fun (x y : Operand) (w : World) => run_guard_rel .eql x y N U w
            have HF := Lib.hid hf
            have hcn := HG.out.2.1 hf
            have hcl := cntP_le N
            have hgk : 0 < gk := by omega
            have hgm : 4096 ≤ (gk - 1) + cntP N := by omega
            have y7 := y7.far (g' := p8) (by omega) (rowsA N)
            have y6 := y6.far (g' := p8) (by omega) (rowsA N)
            have hb8 := below_setRow hb7 (g := p8) (by omega) (rowsA N)
            have HG2 := Lib.hid HG.out.1
            clear hf hcn hcl HG HF
            go_wp2_with (first | (with_reducible refine wpList_load_rel z9 rfl _ rfl rfl ?_) | (with_reducible refine wpList_load_rel y8 rfl _ rfl rfl ?_) | (with_reducible refine wpList_store_rel y8 N rfl _ _ rfl rfl rfl ?_))
            have y8 := y8.setRow N
            go_roundg (gk - 1)
            case measure => omega
            case rel => exact ⟨N, hgm, y8, y7, y6, HG2.out, hb8⟩
      · have HE2 : Hid ((orR (orR (M0) (rivM h A)) A) = startM h x A) := Lib.hid (by rw [HQ.out]; rw [if_neg e16, if_neg e8])
        go_wp2_with (first | (with_reducible refine wpList_load_rel z8 rfl _ rfl rfl ?_) | (with_reducible refine wpList_load_rel z7 rfl _ rfl rfl ?_))
        refine (union_any (orR (M0) (rivM h A)) A _).mono ?_
        rintro e wu ⟨rfl, hbu⟩
        have z8 := z8.below hbu z8.lt
        have z7 := (z7.below hbu z7.lt).far (g' := p8) (by omega) (rowsA (orR (orR (M0) (rivM h A)) A))
        have z6 := (z6.below hbu z6.lt).far (g' := p8) (by omega) (rowsA (orR (orR (M0) (rivM h A)) A))
        have hb := below_setRow (hb.trans (hbu.mono hb.size)) (g := p8) (by omega) (rowsA (orR (orR (M0) (rivM h A)) A))
        clear hbu
        go_wp2_with (with_reducible refine wpList_store_rel z8 (orR (orR (M0) (rivM h A)) A) rfl _ _ rfl rfl rfl ?_)
        have z8 := z8.setRow (orR (orR (M0) (rivM h A)) A)
        generalize World.setRow _ _ _ = wv at *
        obtain ⟨V, hV⟩ : ∃ V, V = orR (orR (M0) (rivM h A)) A := ⟨_, rfl⟩
        have HE : Hid (V = startM h x A) := Lib.hid (by rw [hV]; exact HE2.out)
        rw [← hV] at z8
        clear hV HE2
        simp only [Act.put]
        go_loopg [] (4096 - cntP V) (fun g wx => ∃ U : Mat, 4096 ≤ g + cntP U ∧ RelAt wx p8 97 U ∧ RelAt wx p7 97 A ∧ RelAt wx w.heap.size 97 noR ∧ Grown V A (trB x) (pfB x) U ∧ Below w.heap.size w wx)
        case atStart => exact ⟨V, by have := cntP_le V; omega, z8, z7, z6, Grown.start V A _ _, hb⟩
        case round =>
          obtain ⟨U, hg, y8, y7, y6, hGr, hbr⟩ := hrel
          clear z8 z7 z6 hb
          have hTr := HT.out _ hbr
          go_wp2_with (first | (with_reducible refine wpList_load_rel y8 rfl _ rfl rfl ?_) | (with_reducible refine wpList_load_rel y7 rfl _ rfl rfl ?_))
          refine (lmore_any x U A _ hTr).mono ?_
          rintro e w5 ⟨rfl, hb5⟩
          have y8 := y8.below hb5 y8.lt
          have y7 := y7.below hb5 y7.lt
          have y6 := y6.below hb5 y6.lt
          have hb6 := hbr.trans (hb5.mono hbr.size)
          have hl8 := y8.lt
          have hGn := hGr.next
          have hGc := hGr.count
          have hGd := hGr.done
          have HG := Lib.hid (And.intro hGn (And.intro hGc hGd))
          clear hGn hGc hGd hGr hbr hb5 hTr
          generalize moreM U A (trB x) (pfB x) = N at *
          have z9 := zero_block w5
          have hs6 := hb6.size
          have y8 := (y8.alloc (.cells #[.int .u64 0, .int .u64 0, .int .u64 0, .int .u64 0, .int .u64 0, .int .u64 0, .int .u64 0, .int .u64 0, .int .u64 0, .int .u64 0, .int .u64 0, .int .u64 0, .int .u64 0, .int .u64 0, .int .u64 0, .int .u64 0, .int .u64 0, .int .u64 0, .int .u64 0, .int .u64 0, .int .u64 0, .int .u64 0, .int .u64 0, .int .u64 0, .int .u64 0, .int .u64 0, .int .u64 0, .int .u64 0, .int .u64 0, .int .u64 0, .int .u64 0, .int .u64 0, .int .u64 0, .int .u64 0, .int .u64 0, .int .u64 0, .int .u64 0, .int .u64 0, .int .u64 0, .int .u64 0, .int .u64 0, .int .u64 0, .int .u64 0, .int .u64 0, .int .u64 0, .int .u64 0, .int .u64 0, .int .u64 0, .int .u64 0, .int .u64 0, .int .u64 0, .int .u64 0, .int .u64 0, .int .u64 0, .int .u64 0, .int .u64 0, .int .u64 0, .int .u64 0, .int .u64 0, .int .u64 0, .int .u64 0, .int .u64 0, .int .u64 0, .int .u64 0] 97)).far (g' := w5.heap.size) (by omega) (rowsA N)
          have y7 := (y7.alloc (.cells #[.int .u64 0, .int .u64 0, .int .u64 0, .int .u64 0, .int .u64 0, .int .u64 0, .int .u64 0, .int .u64 0, .int .u64 0, .int .u64 0, .int .u64 0, .int .u64 0, .int .u64 0, .int .u64 0, .int .u64 0, .int .u64 0, .int .u64 0, .int .u64 0, .int .u64 0, .int .u64 0, .int .u64 0, .int .u64 0, .int .u64 0, .int .u64 0, .int .u64 0, .int .u64 0, .int .u64 0, .int .u64 0, .int .u64 0, .int .u64 0, .int .u64 0, .int .u64 0, .int .u64 0, .int .u64 0, .int .u64 0, .int .u64 0, .int .u64 0, .int .u64 0, .int .u64 0, .int .u64 0, .int .u64 0, .int .u64 0, .int .u64 0, .int .u64 0, .int .u64 0, .int .u64 0, .int .u64 0, .int .u64 0, .int .u64 0, .int .u64 0, .int .u64 0, .int .u64 0, .int .u64 0, .int .u64 0, .int .u64 0, .int .u64 0, .int .u64 0, .int .u64 0, .int .u64 0, .int .u64 0, .int .u64 0, .int .u64 0, .int .u64 0, .int .u64 0] 97)).far (g' := w5.heap.size) (by omega) (rowsA N)
          have y6 := (y6.alloc (.cells #[.int .u64 0, .int .u64 0, .int .u64 0, .int .u64 0, .int .u64 0, .int .u64 0, .int .u64 0, .int .u64 0, .int .u64 0, .int .u64 0, .int .u64 0, .int .u64 0, .int .u64 0, .int .u64 0, .int .u64 0, .int .u64 0, .int .u64 0, .int .u64 0, .int .u64 0, .int .u64 0, .int .u64 0, .int .u64 0, .int .u64 0, .int .u64 0, .int .u64 0, .int .u64 0, .int .u64 0, .int .u64 0, .int .u64 0, .int .u64 0, .int .u64 0, .int .u64 0, .int .u64 0, .int .u64 0, .int .u64 0, .int .u64 0, .int .u64 0, .int .u64 0, .int .u64 0, .int .u64 0, .int .u64 0, .int .u64 0, .int .u64 0, .int .u64 0, .int .u64 0, .int .u64 0, .int .u64 0, .int .u64 0, .int .u64 0, .int .u64 0, .int .u64 0, .int .u64 0, .int .u64 0, .int .u64 0, .int .u64 0, .int .u64 0, .int .u64 0, .int .u64 0, .int .u64 0, .int .u64 0, .int .u64 0, .int .u64 0, .int .u64 0, .int .u64 0] 97)).far (g' := w5.heap.size) (by omega) (rowsA N)
          have hb7 := below_setRow (hb6.alloc hb6.size (.cells #[.int .u64 0, .int .u64 0, .int .u64 0, .int .u64 0, .int .u64 0, .int .u64 0, .int .u64 0, .int .u64 0, .int .u64 0, .int .u64 0, .int .u64 0, .int .u64 0, .int .u64 0, .int .u64 0, .int .u64 0, .int .u64 0, .int .u64 0, .int .u64 0, .int .u64 0, .int .u64 0, .int .u64 0, .int .u64 0, .int .u64 0, .int .u64 0, .int .u64 0, .int .u64 0, .int .u64 0, .int .u64 0, .int .u64 0, .int .u64 0, .int .u64 0, .int .u64 0, .int .u64 0, .int .u64 0, .int .u64 0, .int .u64 0, .int .u64 0, .int .u64 0, .int .u64 0, .int .u64 0, .int .u64 0, .int .u64 0, .int .u64 0, .int .u64 0, .int .u64 0, .int .u64 0, .int .u64 0, .int .u64 0, .int .u64 0, .int .u64 0, .int .u64 0, .int .u64 0, .int .u64 0, .int .u64 0, .int .u64 0, .int .u64 0, .int .u64 0, .int .u64 0, .int .u64 0, .int .u64 0, .int .u64 0, .int .u64 0, .int .u64 0, .int .u64 0] 97)) (g := w5.heap.size) (by omega) (rowsA N)
          clear hb6
          go_upto_region 8 with (with_reducible refine wpList_store_rel z9 N rfl _ _ rfl rfl rfl ?_)
          have z9 := z9.setRow N
          generalize World.setRow _ _ _ = w6 at *
          have hl9 := z9.lt
          by_cases hf : rowsA N = rowsA U
          · have E0 := fun w => run_eql_yes N U hf w
            have G0 := fun (x y : Operand) (w : World) => run_guard_rel .eql x y N U w
            have HF := Lib.hid hf
            clear hf
            go_wp2_with (first | (with_reducible refine wpList_load_rel z9 rfl _ rfl rfl ?_) | (with_reducible refine wpList_load_rel y8 rfl _ rfl rfl ?_) | (with_reducible refine wpList_store_rel y6 U rfl _ _ rfl rfl rfl ?_))
            have h3 := y6.setRow U
            exact bodyPost_ret (results_rel rfl _ _ _ _ rfl h3) rfl ⟨⟨U, rfl, by rw [← HE.out]; exact (HG.out.2.2 HF.out)⟩, below_setRow hb7 (Nat.le_refl _) _⟩
          · have E0 := fun w => run_eql_no N U hf w
            have G0 := fun (x y : Operand) (w : World) => run_guard_rel .eql x y N U w
            have HF := Lib.hid hf
            have hcn := HG.out.2.1 hf
            have hcl := cntP_le N
            have hgk : 0 < gk := by omega
            have hgm : 4096 ≤ (gk - 1) + cntP N := by omega
            have y7 := y7.far (g' := p8) (by omega) (rowsA N)
            have y6 := y6.far (g' := p8) (by omega) (rowsA N)
            have hb8 := below_setRow hb7 (g := p8) (by omega) (rowsA N)
            have HG2 := Lib.hid HG.out.1
            clear hf hcn hcl HG HF
            go_wp2_with (first | (with_reducible refine wpList_load_rel z9 rfl _ rfl rfl ?_) | (with_reducible refine wpList_load_rel y8 rfl _ rfl rfl ?_) | (with_reducible refine wpList_store_rel y8 N rfl _ _ rfl rfl rfl ?_))
            have y8 := y8.setRow N
            go_roundg (gk - 1)
            case measure => omega
            case rel => exact ⟨N, hgm, y8, y7, y6, HG2.out, hb8⟩
    ·
      go_simp
      refine (CR.out _ kd).mono ?_
      rintro e q3 ⟨rfl, hq3⟩
      show K _ _
      have k3 := below_then kd hq3
      have s3 := HA.out _ k3
      refine hK.out _ _ s3 (fun _ => ?_)
      clear hK K
      refine wpAnyH_ready (rs := [0]) (by kernel_rfl) (by simp) ?_
      refine AllReadyH.cons rfl (fun K hK => ?_) AllReadyH.nil
      rw [if_pos (by rfl)]
      refine wp_load_rel (HV.out _ k3) _ rfl rfl ?_
      refine hK.out _ _ s3 (fun _ => ?_)
      clear hK K
      refine wpAnyH_ready (rs := [4]) (by kernel_rfl) (by simp) ?_
      refine AllReadyH.cons rfl (fun K hK => ?_) AllReadyH.nil
      go_simp
      refine (union_any (M0) (rivM h A) _).mono ?_
      rintro e q4 ⟨rfl, hq4⟩
      show K _ _
      have k4 := below_then k3 hq4
      have s4 := HA.out _ k4
      refine hK.out _ _ s4 (fun _ => ?_)
      clear hK K
      refine wpAnyH_ready (rs := [5]) (by kernel_rfl) (by simp) ?_
      refine AllReadyH.cons rfl (fun K hK => ?_) AllReadyH.nil
      rw [if_pos (by rfl)]
      refine wp_store_rel (HV.out _ k4) (orR (M0) (rivM h A)) _ _ rfl rfl rfl ?_
      refine hK.out _ _ ((HA.out _ k4).far (by omega) _) (fun _ => ?_)
      clear hK K
      refine wpAnyH_done (by kernel_rfl) ?_ _
      have z8 := (HV.out _ k4).setRow (orR (M0) (rivM h A))
      have z7 := (HA.out _ k4).far (g' := p8) (by omega) (rowsA (orR (M0) (rivM h A)))
      have z6 := (HZ.out _ k4).far (g' := p8) (by omega) (rowsA (orR (M0) (rivM h A)))
      have hb := below_setRow (HB.out _ k4) (g := p8) (by omega) (rowsA (orR (M0) (rivM h A)))
      generalize World.setRow _ _ _ = w6 at *
      clear HV HA HZ HB CR kd
      go_upto_region 5 with fail
      by_cases e16 : q16 = 0
      · have HE2 : Hid ((orR (M0) (rivM h A)) = startM h x A) := Lib.hid (by rw [HQ.out]; rw [if_pos e16, if_neg e8])
        subst e16
        obtain ⟨V, hV⟩ : ∃ V, V = orR (M0) (rivM h A) := ⟨_, rfl⟩
        have HE : Hid (V = startM h x A) := Lib.hid (by rw [hV]; exact HE2.out)
        rw [← hV] at z8
        clear hV HE2
        go_wp2_with fail
        go_loopg [] (4096 - cntP V) (fun g wx => ∃ U : Mat, 4096 ≤ g + cntP U ∧ RelAt wx p8 97 U ∧ RelAt wx p7 97 A ∧ RelAt wx w.heap.size 97 noR ∧ Grown V A (trB x) (pfB x) U ∧ Below w.heap.size w wx)
        case atStart => exact ⟨V, by have := cntP_le V; omega, z8, z7, z6, Grown.start V A _ _, hb⟩
        case round =>
          obtain ⟨U, hg, y8, y7, y6, hGr, hbr⟩ := hrel
          clear z8 z7 z6 hb
          have hTr := HT.out _ hbr
          go_wp2_with (first | (with_reducible refine wpList_load_rel y8 rfl _ rfl rfl ?_) | (with_reducible refine wpList_load_rel y7 rfl _ rfl rfl ?_))
          refine (lmore_any x U A _ hTr).mono ?_
          rintro e w5 ⟨rfl, hb5⟩
          have y8 := y8.below hb5 y8.lt
          have y7 := y7.below hb5 y7.lt
          have y6 := y6.below hb5 y6.lt
          have hb6 := hbr.trans (hb5.mono hbr.size)
          have hl8 := y8.lt
          have hGn := hGr.next
          have hGc := hGr.count
          have hGd := hGr.done
          have HG := Lib.hid (And.intro hGn (And.intro hGc hGd))
          clear hGn hGc hGd hGr hbr hb5 hTr
          generalize moreM U A (trB x) (pfB x) = N at *
          have z9 := zero_block w5
          have hs6 := hb6.size
          have y8 := (y8.alloc (.cells #[.int .u64 0, .int .u64 0, .int .u64 0, .int .u64 0, .int .u64 0, .int .u64 0, .int .u64 0, .int .u64 0, .int .u64 0, .int .u64 0, .int .u64 0, .int .u64 0, .int .u64 0, .int .u64 0, .int .u64 0, .int .u64 0, .int .u64 0, .int .u64 0, .int .u64 0, .int .u64 0, .int .u64 0, .int .u64 0, .int .u64 0, .int .u64 0, .int .u64 0, .int .u64 0, .int .u64 0, .int .u64 0, .int .u64 0, .int .u64 0, .int .u64 0, .int .u64 0, .int .u64 0, .int .u64 0, .int .u64 0, .int .u64 0, .int .u64 0, .int .u64 0, .int .u64 0, .int .u64 0, .int .u64 0, .int .u64 0, .int .u64 0, .int .u64 0, .int .u64 0, .int .u64 0, .int .u64 0, .int .u64 0, .int .u64 0, .int .u64 0, .int .u64 0, .int .u64 0, .int .u64 0, .int .u64 0, .int .u64 0, .int .u64 0, .int .u64 0, .int .u64 0, .int .u64 0, .int .u64 0, .int .u64 0, .int .u64 0, .int .u64 0, .int .u64 0] 97)).far (g' := w5.heap.size) (by omega) (rowsA N)
          have y7 := (y7.alloc (.cells #[.int .u64 0, .int .u64 0, .int .u64 0, .int .u64 0, .int .u64 0, .int .u64 0, .int .u64 0, .int .u64 0, .int .u64 0, .int .u64 0, .int .u64 0, .int .u64 0, .int .u64 0, .int .u64 0, .int .u64 0, .int .u64 0, .int .u64 0, .int .u64 0, .int .u64 0, .int .u64 0, .int .u64 0, .int .u64 0, .int .u64 0, .int .u64 0, .int .u64 0, .int .u64 0, .int .u64 0, .int .u64 0, .int .u64 0, .int .u64 0, .int .u64 0, .int .u64 0, .int .u64 0, .int .u64 0, .int .u64 0, .int .u64 0, .int .u64 0, .int .u64 0, .int .u64 0, .int .u64 0, .int .u64 0, .int .u64 0, .int .u64 0, .int .u64 0, .int .u64 0, .int .u64 0, .int .u64 0, .int .u64 0, .int .u64 0, .int .u64 0, .int .u64 0, .int .u64 0, .int .u64 0, .int .u64 0, .int .u64 0, .int .u64 0, .int .u64 0, .int .u64 0, .int .u64 0, .int .u64 0, .int .u64 0, .int .u64 0, .int .u64 0, .int .u64 0] 97)).far (g' := w5.heap.size) (by omega) (rowsA N)
          have y6 := (y6.alloc (.cells #[.int .u64 0, .int .u64 0, .int .u64 0, .int .u64 0, .int .u64 0, .int .u64 0, .int .u64 0, .int .u64 0, .int .u64 0, .int .u64 0, .int .u64 0, .int .u64 0, .int .u64 0, .int .u64 0, .int .u64 0, .int .u64 0, .int .u64 0, .int .u64 0, .int .u64 0, .int .u64 0, .int .u64 0, .int .u64 0, .int .u64 0, .int .u64 0, .int .u64 0, .int .u64 0, .int .u64 0, .int .u64 0, .int .u64 0, .int .u64 0, .int .u64 0, .int .u64 0, .int .u64 0, .int .u64 0, .int .u64 0, .int .u64 0, .int .u64 0, .int .u64 0, .int .u64 0, .int .u64 0, .int .u64 0, .int .u64 0, .int .u64 0, .int .u64 0, .int .u64 0, .int .u64 0, .int .u64 0, .int .u64 0, .int .u64 0, .int .u64 0, .int .u64 0, .int .u64 0, .int .u64 0, .int .u64 0, .int .u64 0, .int .u64 0, .int .u64 0, .int .u64 0, .int .u64 0, .int .u64 0, .int .u64 0, .int .u64 0, .int .u64 0, .int .u64 0] 97)).far (g' := w5.heap.size) (by omega) (rowsA N)
          have hb7 := below_setRow (hb6.alloc hb6.size (.cells #[.int .u64 0, .int .u64 0, .int .u64 0, .int .u64 0, .int .u64 0, .int .u64 0, .int .u64 0, .int .u64 0, .int .u64 0, .int .u64 0, .int .u64 0, .int .u64 0, .int .u64 0, .int .u64 0, .int .u64 0, .int .u64 0, .int .u64 0, .int .u64 0, .int .u64 0, .int .u64 0, .int .u64 0, .int .u64 0, .int .u64 0, .int .u64 0, .int .u64 0, .int .u64 0, .int .u64 0, .int .u64 0, .int .u64 0, .int .u64 0, .int .u64 0, .int .u64 0, .int .u64 0, .int .u64 0, .int .u64 0, .int .u64 0, .int .u64 0, .int .u64 0, .int .u64 0, .int .u64 0, .int .u64 0, .int .u64 0, .int .u64 0, .int .u64 0, .int .u64 0, .int .u64 0, .int .u64 0, .int .u64 0, .int .u64 0, .int .u64 0, .int .u64 0, .int .u64 0, .int .u64 0, .int .u64 0, .int .u64 0, .int .u64 0, .int .u64 0, .int .u64 0, .int .u64 0, .int .u64 0, .int .u64 0, .int .u64 0, .int .u64 0, .int .u64 0] 97)) (g := w5.heap.size) (by omega) (rowsA N)
          clear hb6
          go_upto_region 8 with (with_reducible refine wpList_store_rel z9 N rfl _ _ rfl rfl rfl ?_)
          have z9 := z9.setRow N
          generalize World.setRow _ _ _ = w6 at *
          have hl9 := z9.lt
          by_cases hf : rowsA N = rowsA U
          · have E0 := fun w => run_eql_yes N U hf w
            have G0 := fun (x y : Operand) (w : World) => run_guard_rel .eql x y N U w
            have HF := Lib.hid hf
            clear hf
            go_wp2_with (first | (with_reducible refine wpList_load_rel z9 rfl _ rfl rfl ?_) | (with_reducible refine wpList_load_rel y8 rfl _ rfl rfl ?_) | (with_reducible refine wpList_store_rel y6 U rfl _ _ rfl rfl rfl ?_))
            have h3 := y6.setRow U
            exact bodyPost_ret (results_rel rfl _ _ _ _ rfl h3) rfl ⟨⟨U, rfl, by rw [← HE.out]; exact (HG.out.2.2 HF.out)⟩, below_setRow hb7 (Nat.le_refl _) _⟩
          · have E0 := fun w => run_eql_no N U hf w
            have G0 := fun (x y : Operand) (w : World) => run_guard_rel .eql x y N U w
            have HF := Lib.hid hf
            have hcn := HG.out.2.1 hf
            have hcl := cntP_le N
            have hgk : 0 < gk := by omega
            have hgm : 4096 ≤ (gk - 1) + cntP N := by omega
            have y7 := y7.far (g' := p8) (by omega) (rowsA N)
            have y6 := y6.far (g' := p8) (by omega) (rowsA N)
            have hb8 := below_setRow hb7 (g := p8) (by omega) (rowsA N)
            have HG2 := Lib.hid HG.out.1
            clear hf hcn hcl HG HF
            go_wp2_with (first | (with_reducible refine wpList_load_rel z9 rfl _ rfl rfl ?_) | (with_reducible refine wpList_load_rel y8 rfl _ rfl rfl ?_) | (with_reducible refine wpList_store_rel y8 N rfl _ _ rfl rfl rfl ?_))
            have y8 := y8.setRow N
            go_roundg (gk - 1)
            case measure => omega
            case rel => exact ⟨N, hgm, y8, y7, y6, HG2.out, hb8⟩
      · have HE2 : Hid ((orR (orR (M0) (rivM h A)) A) = startM h x A) := Lib.hid (by rw [HQ.out]; rw [if_neg e16, if_neg e8])
        go_wp2_with (first | (with_reducible refine wpList_load_rel z8 rfl _ rfl rfl ?_) | (with_reducible refine wpList_load_rel z7 rfl _ rfl rfl ?_))
        refine (union_any (orR (M0) (rivM h A)) A _).mono ?_
        rintro e wu ⟨rfl, hbu⟩
        have z8 := z8.below hbu z8.lt
        have z7 := (z7.below hbu z7.lt).far (g' := p8) (by omega) (rowsA (orR (orR (M0) (rivM h A)) A))
        have z6 := (z6.below hbu z6.lt).far (g' := p8) (by omega) (rowsA (orR (orR (M0) (rivM h A)) A))
        have hb := below_setRow (hb.trans (hbu.mono hb.size)) (g := p8) (by omega) (rowsA (orR (orR (M0) (rivM h A)) A))
        clear hbu
        go_wp2_with (with_reducible refine wpList_store_rel z8 (orR (orR (M0) (rivM h A)) A) rfl _ _ rfl rfl rfl ?_)
        have z8 := z8.setRow (orR (orR (M0) (rivM h A)) A)
        generalize World.setRow _ _ _ = wv at *
        obtain ⟨V, hV⟩ : ∃ V, V = orR (orR (M0) (rivM h A)) A := ⟨_, rfl⟩
        have HE : Hid (V = startM h x A) := Lib.hid (by rw [hV]; exact HE2.out)
        rw [← hV] at z8
        clear hV HE2
        simp only [Act.put]
        go_loopg [] (4096 - cntP V) (fun g wx => ∃ U : Mat, 4096 ≤ g + cntP U ∧ RelAt wx p8 97 U ∧ RelAt wx p7 97 A ∧ RelAt wx w.heap.size 97 noR ∧ Grown V A (trB x) (pfB x) U ∧ Below w.heap.size w wx)
        case atStart => exact ⟨V, by have := cntP_le V; omega, z8, z7, z6, Grown.start V A _ _, hb⟩
        case round =>
          obtain ⟨U, hg, y8, y7, y6, hGr, hbr⟩ := hrel
          clear z8 z7 z6 hb
          have hTr := HT.out _ hbr
          go_wp2_with (first | (with_reducible refine wpList_load_rel y8 rfl _ rfl rfl ?_) | (with_reducible refine wpList_load_rel y7 rfl _ rfl rfl ?_))
          refine (lmore_any x U A _ hTr).mono ?_
          rintro e w5 ⟨rfl, hb5⟩
          have y8 := y8.below hb5 y8.lt
          have y7 := y7.below hb5 y7.lt
          have y6 := y6.below hb5 y6.lt
          have hb6 := hbr.trans (hb5.mono hbr.size)
          have hl8 := y8.lt
          have hGn := hGr.next
          have hGc := hGr.count
          have hGd := hGr.done
          have HG := Lib.hid (And.intro hGn (And.intro hGc hGd))
          clear hGn hGc hGd hGr hbr hb5 hTr
          generalize moreM U A (trB x) (pfB x) = N at *
          have z9 := zero_block w5
          have hs6 := hb6.size
          have y8 := (y8.alloc (.cells #[.int .u64 0, .int .u64 0, .int .u64 0, .int .u64 0, .int .u64 0, .int .u64 0, .int .u64 0, .int .u64 0, .int .u64 0, .int .u64 0, .int .u64 0, .int .u64 0, .int .u64 0, .int .u64 0, .int .u64 0, .int .u64 0, .int .u64 0, .int .u64 0, .int .u64 0, .int .u64 0, .int .u64 0, .int .u64 0, .int .u64 0, .int .u64 0, .int .u64 0, .int .u64 0, .int .u64 0, .int .u64 0, .int .u64 0, .int .u64 0, .int .u64 0, .int .u64 0, .int .u64 0, .int .u64 0, .int .u64 0, .int .u64 0, .int .u64 0, .int .u64 0, .int .u64 0, .int .u64 0, .int .u64 0, .int .u64 0, .int .u64 0, .int .u64 0, .int .u64 0, .int .u64 0, .int .u64 0, .int .u64 0, .int .u64 0, .int .u64 0, .int .u64 0, .int .u64 0, .int .u64 0, .int .u64 0, .int .u64 0, .int .u64 0, .int .u64 0, .int .u64 0, .int .u64 0, .int .u64 0, .int .u64 0, .int .u64 0, .int .u64 0, .int .u64 0] 97)).far (g' := w5.heap.size) (by omega) (rowsA N)
          have y7 := (y7.alloc (.cells #[.int .u64 0, .int .u64 0, .int .u64 0, .int .u64 0, .int .u64 0, .int .u64 0, .int .u64 0, .int .u64 0, .int .u64 0, .int .u64 0, .int .u64 0, .int .u64 0, .int .u64 0, .int .u64 0, .int .u64 0, .int .u64 0, .int .u64 0, .int .u64 0, .int .u64 0, .int .u64 0, .int .u64 0, .int .u64 0, .int .u64 0, .int .u64 0, .int .u64 0, .int .u64 0, .int .u64 0, .int .u64 0, .int .u64 0, .int .u64 0, .int .u64 0, .int .u64 0, .int .u64 0, .int .u64 0, .int .u64 0, .int .u64 0, .int .u64 0, .int .u64 0, .int .u64 0, .int .u64 0, .int .u64 0, .int .u64 0, .int .u64 0, .int .u64 0, .int .u64 0, .int .u64 0, .int .u64 0, .int .u64 0, .int .u64 0, .int .u64 0, .int .u64 0, .int .u64 0, .int .u64 0, .int .u64 0, .int .u64 0, .int .u64 0, .int .u64 0, .int .u64 0, .int .u64 0, .int .u64 0, .int .u64 0, .int .u64 0, .int .u64 0, .int .u64 0] 97)).far (g' := w5.heap.size) (by omega) (rowsA N)
          have y6 := (y6.alloc (.cells #[.int .u64 0, .int .u64 0, .int .u64 0, .int .u64 0, .int .u64 0, .int .u64 0, .int .u64 0, .int .u64 0, .int .u64 0, .int .u64 0, .int .u64 0, .int .u64 0, .int .u64 0, .int .u64 0, .int .u64 0, .int .u64 0, .int .u64 0, .int .u64 0, .int .u64 0, .int .u64 0, .int .u64 0, .int .u64 0, .int .u64 0, .int .u64 0, .int .u64 0, .int .u64 0, .int .u64 0, .int .u64 0, .int .u64 0, .int .u64 0, .int .u64 0, .int .u64 0, .int .u64 0, .int .u64 0, .int .u64 0, .int .u64 0, .int .u64 0, .int .u64 0, .int .u64 0, .int .u64 0, .int .u64 0, .int .u64 0, .int .u64 0, .int .u64 0, .int .u64 0, .int .u64 0, .int .u64 0, .int .u64 0, .int .u64 0, .int .u64 0, .int .u64 0, .int .u64 0, .int .u64 0, .int .u64 0, .int .u64 0, .int .u64 0, .int .u64 0, .int .u64 0, .int .u64 0, .int .u64 0, .int .u64 0, .int .u64 0, .int .u64 0, .int .u64 0] 97)).far (g' := w5.heap.size) (by omega) (rowsA N)
          have hb7 := below_setRow (hb6.alloc hb6.size (.cells #[.int .u64 0, .int .u64 0, .int .u64 0, .int .u64 0, .int .u64 0, .int .u64 0, .int .u64 0, .int .u64 0, .int .u64 0, .int .u64 0, .int .u64 0, .int .u64 0, .int .u64 0, .int .u64 0, .int .u64 0, .int .u64 0, .int .u64 0, .int .u64 0, .int .u64 0, .int .u64 0, .int .u64 0, .int .u64 0, .int .u64 0, .int .u64 0, .int .u64 0, .int .u64 0, .int .u64 0, .int .u64 0, .int .u64 0, .int .u64 0, .int .u64 0, .int .u64 0, .int .u64 0, .int .u64 0, .int .u64 0, .int .u64 0, .int .u64 0, .int .u64 0, .int .u64 0, .int .u64 0, .int .u64 0, .int .u64 0, .int .u64 0, .int .u64 0, .int .u64 0, .int .u64 0, .int .u64 0, .int .u64 0, .int .u64 0, .int .u64 0, .int .u64 0, .int .u64 0, .int .u64 0, .int .u64 0, .int .u64 0, .int .u64 0, .int .u64 0, .int .u64 0, .int .u64 0, .int .u64 0, .int .u64 0, .int .u64 0, .int .u64 0, .int .u64 0] 97)) (g := w5.heap.size) (by omega) (rowsA N)
          clear hb6
          go_upto_region 8 with (with_reducible refine wpList_store_rel z9 N rfl _ _ rfl rfl rfl ?_)
          have z9 := z9.setRow N
          generalize World.setRow _ _ _ = w6 at *
          have hl9 := z9.lt
          by_cases hf : rowsA N = rowsA U
          · have E0 := fun w => run_eql_yes N U hf w
            have G0 := fun (x y : Operand) (w : World) => run_guard_rel .eql x y N U w
            have HF := Lib.hid hf
            clear hf
            go_wp2_with (first | (with_reducible refine wpList_load_rel z9 rfl _ rfl rfl ?_) | (with_reducible refine wpList_load_rel y8 rfl _ rfl rfl ?_) | (with_reducible refine wpList_store_rel y6 U rfl _ _ rfl rfl rfl ?_))
            have h3 := y6.setRow U
            exact bodyPost_ret (results_rel rfl _ _ _ _ rfl h3) rfl ⟨⟨U, rfl, by rw [← HE.out]; exact (HG.out.2.2 HF.out)⟩, below_setRow hb7 (Nat.le_refl _) _⟩
          · have E0 := fun w => run_eql_no N U hf w
            have G0 := fun (x y : Operand) (w : World) => run_guard_rel .eql x y N U w
            have HF := Lib.hid hf
            have hcn := HG.out.2.1 hf
            have hcl := cntP_le N
            have hgk : 0 < gk := by omega
            have hgm : 4096 ≤ (gk - 1) + cntP N := by omega
            have y7 := y7.far (g' := p8) (by omega) (rowsA N)
            have y6 := y6.far (g' := p8) (by omega) (rowsA N)
            have hb8 := below_setRow hb7 (g := p8) (by omega) (rowsA N)
            have HG2 := Lib.hid HG.out.1
            clear hf hcn hcl HG HF
            go_wp2_with (first | (with_reducible refine wpList_load_rel z9 rfl _ rfl rfl ?_) | (with_reducible refine wpList_load_rel y8 rfl _ rfl rfl ?_) | (with_reducible refine wpList_store_rel y8 N rfl _ _ rfl rfl rfl ?_))
            have y8 := y8.setRow N
            go_roundg (gk - 1)
            case measure => omega
            case rel => exact ⟨N, hgm, y8, y7, y6, HG2.out, hb8⟩
end Go.Proofs.YtecpeegbfeijaaaGreatDoor

namespace Go.Proofs.YtecpeegbfeijaaaGreatDoor
set_option maxRecDepth 100000
open Go.RowKit

/-- An append onto an owned row, at a step of a region that draws: whatever is appended, nothing too. -/
theorem step_append_own {P : Program} (w : World) {ops : Array Oper} {o : Oper} {a : Act} {K : Act → World → Prop} {Q : Exit → Act → World → Prop} {E : Prop} (hgd : o.guard = none) (s x : Operand) (t : TypeId)
    (ho : o.op = .call { callee := .builtin .append, args := #[s, x], argTypes := #[t, t] })
    (base : Nat) (e : TypeId) (i : TypeInfo) (z : Value) (size bytes : Nat) (ht : P.underlying t = some (.slice e)) (hi : P.info? e = some i) (hz : i.zero = some z)
    (hsize : i.size = size) (hby : i.bytes = bytes) (hzs : z.cells.size = size) (hsz : 0 < size)
    (v : Value) (n : Nat) (xs : List Value) (hs : a.eval s = v) (hown : w.ownsRow base e size v n xs)
    (ad : Addr) (m c : Nat) (news : List Value) (hx : a.eval x = .slice (some ad) m c) (hl : news.length = m * size) (hnews : ∀ j u, news[j]? = some u → w.cell? (ad.add j) = some u) (h1 : ∀ u ∈ news, u.oneCell' = true)
    (h63 : n + m ≤ maxLen) (hbytes : (n + m) * bytes ≤ 140737488355328) (hbase : base ≤ w.heap.size)
    (h : ∀ v' w', w'.ownsRow base e size v' (n + m) (xs ++ news) → w.grownBy w' v.ownBlock → K (a.put o.dst v') w') :
    if Region.wanted o (yielded ops a.tmps) = true then Oper.wp P o a w K Q else E := by
  have hw : Region.wanted o (yielded ops a.tmps) = true := by simp [Region.wanted, hgd]
  rw [if_pos hw]
  obtain ⟨v', w', hr, h2, h3, _⟩ := run_append_own (P := P) w base t o.type e i z size bytes ht hi hz hsize hby hzs hsz v n xs hown ad m c news hl hnews h1 h63 hbytes hbase
  unfold Oper.wp execOp
  simp only [ho, resolve, invoke, builtin, Sem.run_bind, Sem.run_pure, Result.andThen_ok, List.map_toArray, List.map_cons, List.map_nil, hs, hx, hr]
  exact h v' w' h2 h3
end Go.Proofs.YtecpeegbfeijaaaGreatDoor

namespace Go.Proofs.YtecpeegbfeijaaaGreatDoor
set_option maxRecDepth 100000
open Go.RowKit

theorem ints_at {w : World} {ao : Option Addr} {n cap : Nat} {L : List Nat} (h : Ints w (.slice ao n cap) (L.map Int.ofNat)) {k : Nat} (hk : k < L.length) :
    ∃ b off, ao = some ⟨b, off, none⟩ ∧ w.cell? ⟨b, off + k, none⟩ = some (.int .i64 (L[k] : Int)) := by
  obtain ⟨b, off, h1, h2⟩ := h.at (k := k) (by simpa using hk)
  refine ⟨b, off, h1, ?_⟩
  rw [h2, List.getElem_map]; rfl
theorem Ints.grown {w w' : World} {v : Value} {xs : List Int} {row : Option Nat} (h : Ints w v xs) (hg : w.grownBy w' row) (hne : ∀ b, row = some b → v.ownBlock ≠ some b) : Ints w' v xs := by
  obtain ⟨hl, ao, cap, rfl, hm, hno, hc⟩ := h
  refine ⟨hl, ao, cap, rfl, hm, hno, fun hn => ?_⟩
  obtain ⟨b, off, rfl, hcell⟩ := hc hn
  refine ⟨b, off, rfl, fun i hi => ?_⟩
  have h2 := hcell i hi
  rw [List.getElem?_eq_getElem (by omega)] at h2 ⊢
  exact hg.cell h2 (fun e => hne b e.symm rfl)
theorem Ints.news {w : World} {g o n cap : Nat} {L : List Nat} (h : Ints w (.slice (some ⟨g, o, none⟩) n cap) (L.map Int.ofNat)) (k : Nat) :
    ∀ i u, ((L.drop k).map fun i : Nat => Value.int .i64 (i : Int))[i]? = some u → w.cell? ((⟨g, o + k, none⟩ : Addr).add i) = some u := by
  intro i u hu
  have hi : i < (L.drop k).length := by have := (List.getElem?_eq_some_iff.1 hu).1; simpa using this
  rw [List.length_drop] at hi
  obtain ⟨b, off, h1, h2⟩ := ints_at h (k := k + i) (by omega)
  cases h1
  rw [Addr.add_lit, Nat.add_assoc, h2, ← hu, List.getElem?_map, List.getElem?_drop, List.getElem?_eq_getElem (by omega)]
  rfl
end Go.Proofs.YtecpeegbfeijaaaGreatDoor

namespace Go.Proofs.YtecpeegbfeijaaaGreatDoor
set_option maxRecDepth 100000
open Go.RowKit

/-- Those that stand to a number, of the numbers below k. -/
def seeTo (R : Mat) (i : Int) (k : Nat) : Nat := (List.range k).foldl (fun (s : Nat) (a : Nat) => if hasR R (a : Int) i then withS s (a : Int) else s) 0
theorem seeTo_succ (R : Mat) (i : Int) (k : Nat) : seeTo R i (k + 1) = if hasR R (k : Int) i then withS (seeTo R i k) (k : Int) else seeTo R i k := by
  unfold seeTo; rw [List.range_succ, List.foldl_append]; rfl
theorem seeTo_set (R : Mat) (i : Int) : ∀ k, IsSet (seeTo R i k)
  | 0 => by unfold seeTo IsSet; simp
  | k + 1 => by
    rw [seeTo_succ]
    split
    · exact isSet_withS (seeTo_set R i k)
    · exact seeTo_set R i k
theorem seeTo_bit (R : Mat) (i : Int) (j : Nat) : ∀ k, k ≤ 64 → (seeTo R i k).testBit j = (decide (j < k) && hasR R (j : Int) i)
  | 0, _ => by simp [seeTo]
  | k + 1, hk => by
    have ih := seeTo_bit R i j k (by omega)
    rw [seeTo_succ]
    by_cases e : j = k
    · subst e
      have h1 : decide (0 ≤ (j : Int) ∧ (j : Int) < 64) = true := by simp; omega
      cases hh : hasR R (j : Int) i with
      | true => rw [if_pos rfl, testBit_withS, h1, Int.toNat_natCast]; simp
      | false => rw [if_neg (by simp), ih]; simp [hh]
    · have h1 : decide (j < k + 1) = decide (j < k) := by rw [decide_eq_decide]; omega
      split
      · have h2 : decide ((k : Int).toNat = j) = false := decide_eq_false (by rw [Int.toNat_natCast]; omega)
        rw [testBit_withS, ih, h1, h2, Bool.and_false, Bool.or_false]
      · rw [ih, h1]
end Go.Proofs.YtecpeegbfeijaaaGreatDoor

namespace Go.Proofs.YtecpeegbfeijaaaGreatDoor
set_option maxRecDepth 100000
open Go.RowKit

theorem perm_take (O L : List Nat) (j : Nat) (hj : j < L.length) : (O ++ [L[j]] ++ (L.take j ++ L.drop (j + 1))).Perm (O ++ L) := by
  have e : L = L.take j ++ L[j] :: L.drop (j + 1) := by rw [← List.drop_eq_getElem_cons hj, List.take_append_drop]
  have h1 : (L.take j ++ L[j] :: L.drop (j + 1)).Perm (L[j] :: (L.take j ++ L.drop (j + 1))) := List.perm_middle
  rw [← e] at h1
  rw [List.append_assoc, List.singleton_append]
  exact (h1.symm).append_left O
end Go.Proofs.YtecpeegbfeijaaaGreatDoor

namespace Go.Proofs.YtecpeegbfeijaaaGreatDoor
set_option maxRecDepth 100000
open Go.RowKit

/-- Whatever lies from D on lies as it lay. -/
structure KeepsHi (D : Nat) (W W' : World) : Prop where
  size : W.heap.size ≤ W'.heap.size
  same : ∀ k, D ≤ k → k < W.heap.size → W'.heap[k]? = W.heap[k]?
theorem KeepsHi.refl (D : Nat) (W : World) : KeepsHi D W W := ⟨Nat.le_refl _, fun _ _ _ => rfl⟩
theorem KeepsHi.trans {D : Nat} {A B C : World} (h : KeepsHi D A B) (k : KeepsHi D B C) : KeepsHi D A C :=
  ⟨Nat.le_trans h.size k.size, fun i h1 h2 => (k.same i h1 (Nat.lt_of_lt_of_le h2 h.size)).trans (h.same i h1 h2)⟩
theorem KeepsHi.mono {D E : Nat} {A B : World} (h : KeepsHi D A B) (hE : D ≤ E) : KeepsHi E A B := ⟨h.size, fun i h1 h2 => h.same i (Nat.le_trans hE h1) h2⟩
theorem KeepsHi.of_below {D : Nat} {A B : World} (h : Below A.heap.size A B) : KeepsHi D A B := ⟨h.size, fun i _ h2 => h.block i h2⟩
theorem KeepsHi.putObj {D l : Nat} (W : World) (o : Obj) (hl : l < D) : KeepsHi D W (W.putObj l o) :=
  ⟨Nat.le_of_eq World.putObj_size.symm, fun k h1 _ => World.putObj_heap_other (by omega)⟩
theorem KeepsHi.setCell {D : Nat} (W : World) (a : Addr) (u : Value) (hl : a.block < D) : KeepsHi D W (W.setCell a u) :=
  ⟨by simp [World.setCell], fun k h1 _ => Below.heap_setCell W a u k (by omega)⟩
/-- A row of numbers, none of it below D. -/
def RowHi (D : Nat) (W : World) (v : Value) (r : List Nat) : Prop := Ints W v (r.map Int.ofNat) ∧ ∀ g, v.ownBlock = some g → D ≤ g
theorem RowHi.kept {D : Nat} {W W' : World} {v : Value} {r : List Nat} (h : RowHi D W v r) (hk : KeepsHi D W W') : RowHi D W' v r := by
  obtain ⟨⟨q1, ao, cap, e, q2, q3, q4⟩, q5⟩ := h
  refine ⟨⟨q1, ao, cap, e, q2, q3, fun hn => ?_⟩, q5⟩
  obtain ⟨g, off, e2, hc⟩ := q4 hn
  refine ⟨g, off, e2, fun i hi => ?_⟩
  rw [← hc i hi]
  have h1 := hc i hi
  have hlt : g < W.heap.size := by
    have h0 := hc 0 (by omega)
    cases hx : ((List.map Int.ofNat r).map (Value.int .i64))[0]? with
    | none => rw [List.getElem?_eq_none_iff] at hx; simp only [List.length_map] at hx hn; omega
    | some x => rw [hx] at h0; exact block_lt h0
  have := hk.same g (q5 g (by rw [e, e2]; rfl)) hlt
  simp only [World.cell?]
  rw [this]

theorem roomy {F : Fence} (hd : F.depth = none) (k : Nat) : F.room k := fun d h => by rw [hd] at h; cases h
theorem round_depth {F : Fence} (hd : F.depth = none) {m m' : Nat} {P : Program} {l : Nat} {f : FuncId} {tmps : Array Value} {assign body : Code} {w : World} {R : Ending → World → Prop}
    (h : RoundIn F m P l f tmps assign body w R) : RoundIn F m' P l f tmps assign body w R := ⟨h.1, fun c cs _ => h.2 c cs (roomy hd _)⟩
theorem yield_depth {F : Fence} (hd : F.depth = none) {m : Nat} (m' : Nat) {P : Program} {l : Nat} {args : Array Value} {W : World} {R : Ending → World → Prop} (h : YieldAt F m P l args W R) : YieldAt F m' P l args W R := by
  obtain ⟨fn, tmps, assign, body, hy, hR⟩ := h
  exact ⟨fn, tmps, assign, body, hy, round_depth hd hR⟩

/-- What reads cells alone stands where all cells stand. -/
theorem Row.cells {W W' : World} {v : Value} {n size : Nat} {cs : List Value} (h : Row W v n size cs) (hk : ∀ a u, W.cell? a = some u → W'.cell? a = some u) : Row W' v n size cs := by
  obtain ⟨hl, ao, cap, rfl, hm, hno, hc⟩ := h
  refine ⟨hl, ao, cap, rfl, hm, hno, fun hn => ?_⟩
  obtain ⟨b, off, rfl, hcell⟩ := hc hn
  refine ⟨b, off, rfl, fun i hi => ?_⟩
  have h1 := hcell i hi
  have h2 : cs[i]? = some cs[i] := List.getElem?_eq_getElem (by omega)
  rw [h2] at h1 ⊢
  exact hk _ _ h1
theorem Ints.cells {W W' : World} {v : Value} {xs : List Int} (h : Ints W v xs) (hk : ∀ a u, W.cell? a = some u → W'.cell? a = some u) : Ints W' v xs := Row.cells h hk
theorem put_cells {W : World} {k : Nat} {o o' : Obj} (h : W.heap[k]? = some o') (ho : o'.isCells = false) : ∀ a u, W.cell? a = some u → (W.putObj k o).cell? a = some u := by
  intro a u hu
  unfold World.cell? at hu ⊢
  by_cases e : a.block = k
  · rw [e, h] at hu
    cases o' with
    | cells c t f => cases ho
    | _ => cases hu
  · rw [World.putObj_heap_other e]; exact hu
/-- What stands below a block stands through whatever leaves all below it. -/
def Stays (D : Nat) (J : List (List Nat) → World → Prop) : Prop := ∀ pre A B, J pre A → Below D A B → J pre B
/-- The contract of a function that hands over the rows L, one by one, each in a slice from the start's own end on. -/
def SeqRows (F : Fence) (n : Nat) (P : Program) (g : Nat) (lb : Array Value) (L : List (List Nat)) (w : World) : Prop :=
  ∀ (l : Nat) (J Jx : List (List Nat) → World → Prop) (W : World), Below w.heap.size w W → Stays W.heap.size J →
    (∀ pre v r A, J pre A → RowHi W.heap.size A v r → (pre ++ [r]) <+: L → YieldAt F (n - 1) P l #[v] A fun e B =>
      (e = .returned (.bool true) ∧ J (pre ++ [r]) B ∧ KeepsHi W.heap.size A B) ∨ (e = .returned (.bool false) ∧ Jx (pre ++ [r]) B)) →
    J [] W →
    CallsIn F n P g (#[.func (.yield l) #[] #[]] ++ lb) W fun e B => (∃ v, e = .returned v) ∧ (J L B ∨ ∃ pre, pre <+: L ∧ Jx pre B)
/-- How a round's body may be left. -/
def roundEnd (D : Nat) (I Ix : List (List Nat) → World → Prop) (xs : List (List Nat)) (W : World) : Exit → Act → World → Prop
  | .normal, _, B => KeepsHi D W B ∧ I xs B
  | .ret, _, B => KeepsHi D W B ∧ Ix xs B
  | _, _, _ => False

theorem range_rows {F : Fence} {n : Nat} {P : Program} {g : Operand} {ps : Array Tmp} {assign body : Code} {Q : Exit → Act → World → Prop} {a : Act} {w w0 : World} {gf : Nat} {lb : Array Value} {L : List (List Nat)}
    (hro : F.round = none) (h1 : 1 ≤ n) (hg : a.eval g = .func (.func gf) #[] lb) (hFg : F.fn gf) (eg : ∀ args w, (callFunc gf args).run P w = .ok (.enter gf args) w)
    (hseq : SeqRows F (n - 1) P gf lb L w0) (hb0 : Below w0.heap.size w0 w) (hps : ps.size = 1)
    (I Ix : List (List Nat) → World → Prop) (hI : Stays w.heap.size I) (hIx : ∀ pre W (r : Loop) o, Ix pre W → W.heap[w.heap.size + 1]? = some (.loop r) → Ix pre (W.putObj (w.heap.size + 1) o)) (h0 : I [] w) (a1 : Value → Act)
    (hassign : ∀ (l : Nat) (v : Value) (W : World) (K : Act → World → Prop), K (a1 v) W →
      assign.wpIn (F.inRound l) (n - 1 - 1) P (Exit.then K (fun _ _ _ => False)) { tmps := (ps.zip #[v]).foldl (fun t (p, v) => t.setIfInBounds p v) a.tmps, defers := [] } W)
    (hbody : ∀ (l : Nat) (pre : List (List Nat)) (v : Value) (r : List Nat) (W : World), I pre W → RowHi (w.heap.size + 2) W v r → (pre ++ [r]) <+: L → w.heap.size + 2 ≤ W.heap.size →
      body.wpIn (F.inRound l) (n - 1 - 1) P (roundEnd w.heap.size I Ix (pre ++ [r]) W) (a1 v) W)
    (hdone : ∀ W, I L W → W.heap[w.heap.size]? = some (.deferred (some [])) → Q .normal { a with defers := { target := .collected w.heap.size, args := #[] } :: a.defers } W)
    (hstop : ∀ pre W, pre <+: L → Ix pre W → W.heap[w.heap.size]? = some (.deferred (some [])) → Code.ret.wpIn F n P Q { a with defers := { target := .collected w.heap.size, args := #[] } :: a.defers } W) :
    (Code.rangeFunc g ps assign body).wpIn F n P Q a w := by
  refine wpIn_rangeFunc fun fn hfn => ?_
  rw [hro]
  generalize hD : w.heap.size = D at *
  obtain ⟨rec, hrec⟩ : ∃ rec : LoopState → Option Code → Loop, rec = fun st pe => { state := st, pending := pe, fn, tmps := a.tmps, params := ps, assign, body, defers := D } := ⟨_, rfl⟩
  have hrun : (Instr.enterLoop fn a.tmps ps assign body none).run P w = .ok (D + 1, [{ target := .collected D, args := #[] }]) ((w.alloc (.deferred (some []))).alloc (.loop (rec .ready none))) := by
    rw [hrec, ← hD]; exact run_enterLoop_outer _ _ _ _ _
  have hbel : Below w.heap.size w ((w.alloc (.deferred (some []))).alloc (.loop (rec .ready none))) := ((Below.refl _ w).alloc (Nat.le_refl _) _).alloc (by simp) _
  have hsz : ((w.alloc (.deferred (some []))).alloc (.loop (rec .ready none))).heap.size = D + 2 := by simp [hD]
  have hl1 : ((w.alloc (.deferred (some []))).alloc (.loop (rec .ready none))).heap[D + 1]? = some (.loop (rec .ready none)) := by
    have := World.alloc_heap_new (w.alloc (.deferred (some []))) (.loop (rec .ready none))
    rwa [World.size_alloc, hD] at this
  have hd1 : ((w.alloc (.deferred (some []))).alloc (.loop (rec .ready none))).heap[D]? = some (.deferred (some [])) := by
    rw [Below.heap_alloc _ _ _ (by simp [hD])]
    have := World.alloc_heap_new w (.deferred (some []))
    rwa [hD] at this
  generalize (w.alloc (.deferred (some []))).alloc (.loop (rec .ready none)) = W1 at *
  rw [hD] at hbel
  have hput : ∀ (W : World) (o : Obj), D + 1 < W.heap.size → Below D W (W.putObj (D + 1) o) := fun W o h =>
    (Below.refl D W).grown (grownBy_putObj' W (D + 1) o) (by omega) (fun k e => by cases e; omega)
  refine ⟨D + 1, _, W1, { target := .fn (.func gf) lb, args := #[.func (.yield (D + 1)) #[] #[]] }, W1, gf, #[.func (.yield (D + 1)) #[] #[]] ++ lb, W1, hrun, ?_, ?_, ?_, fun _ => h1, ?_⟩
  · simp only [resolve, hg]; simp [go_sem]
  · intro f' hf'; simp [Target.leads] at hf'; subst hf'; exact hFg
  · simp [invoke, go_sem, eg]
  have hat : ∀ {A B : World} {k : Nat} {o : Obj}, Below W1.heap.size A B → k < D + 2 → A.heap[k]? = some o → B.heap[k]? = some o := fun h hk e => (h.block _ (by omega)).trans e
  refine (hseq (D + 1) (fun pre W => I pre W ∧ W.heap[D + 1]? = some (.loop (rec .ready none)) ∧ W.heap[D]? = some (.deferred (some [])))
    (fun pre W => Ix pre W ∧ W.heap[D + 1]? = some (.loop (rec .done (some .ret))) ∧ W.heap[D]? = some (.deferred (some []))) W1
    (hb0.trans (hbel.mono (by rw [← hD]; exact hb0.size)))
    (fun pre A B h hb => ⟨hI _ _ _ h.1 (hb.mono (by omega)), hat hb (by omega) h.2.1, hat hb (by omega) h.2.2⟩)
    ?_ ⟨hI _ _ _ h0 hbel, hl1, hd1⟩).mono ?_
  · rintro pre v r A ⟨hi, hl, hk⟩ hr hpre
    rw [hsz] at hr ⊢
    have hlt : D + 1 < A.heap.size := (Array.getElem?_eq_some_iff.1 hl).1
    have hy := run_yield (P := P) (args := #[v]) hl (by rw [hrec]; exact hps.symm)
    rw [hrec] at hy
    refine ⟨fn, _, assign, body, hy, roundIn_of_wpIn hfn (hassign _ v A _ ⟨_, run_beginRound hl (by rw [hrec]), ?_⟩)⟩
    have hl2 : (A.putObj (D + 1) (.loop { rec .ready none with state := .busy })).heap[D + 1]? = some (.loop { rec .ready none with state := .busy }) := World.putObj_heap_same hlt
    have hk2 : (A.putObj (D + 1) (.loop { rec .ready none with state := .busy })).heap[D]? = some (.deferred (some [])) := (World.putObj_heap_other (by omega)).trans hk
    have hK2 := KeepsHi.putObj (D := D + 2) A (.loop { rec .ready none with state := .busy }) (l := D + 1) (by omega)
    refine wpIn_mono (hbody _ pre v r _ (hI _ _ _ hi (hput _ _ hlt)) (hr.kept hK2) hpre (by simp; omega)) ?_
    rintro e a3 W3 hp
    have fin : ∀ (jump : Option Code), KeepsHi D (A.putObj (D + 1) (.loop { rec .ready none with state := .busy })) W3 →
        ∃ B, (Instr.endRound (D + 1) jump).run P W3 = .ok (.bool jump.isNone) B ∧ (∃ (r : Loop) (o : Obj), W3.heap[D + 1]? = some (.loop r) ∧ B = W3.putObj (D + 1) o) ∧ Below D W3 B ∧ KeepsHi (D + 2) A B ∧ B.heap[D + 1]? = some (.loop (rec (if jump.isNone then .ready else .done) jump)) ∧ B.heap[D]? = some (.deferred (some [])) := fun jump hk3 => by
      have hl3 := (hk3.same (D + 1) (by omega) (by simp; omega)).trans hl2
      have hd3 := (hk3.same D (Nat.le_refl _) (by simp; omega)).trans hk2
      have hlt3 := (Array.getElem?_eq_some_iff.1 hl3).1
      refine ⟨_, run_endRound (P := P) jump hl3, ⟨_, _, hl3, rfl⟩, hput _ _ hlt3, (hK2.trans (hk3.mono (by omega))).trans (KeepsHi.putObj _ _ (by omega)), ?_, (World.putObj_heap_other (by omega)).trans hd3⟩
      rw [World.putObj_heap_same hlt3, hrec]
    cases e with
    | normal =>
      obtain ⟨hk3, hi3⟩ := hp
      obtain ⟨B, hr, _, hb, hkb, hl4, hd4⟩ := fin none hk3
      exact ⟨_, B, hr, .inl ⟨rfl, ⟨hI _ _ _ hi3 hb, hl4, hd4⟩, hkb⟩⟩
    | ret =>
      obtain ⟨hk3, hi3⟩ := hp
      obtain ⟨B, hr, ⟨lr, lo, hl3, hB⟩, _, _, hl4, hd4⟩ := fin (some .ret) hk3
      exact ⟨_, B, hr, .inr ⟨rfl, by rw [hB]; exact hIx _ _ lr lo hi3 hl3, hl4, hd4⟩⟩
    | exit id => exact hp.elim
    | goto t => exact hp.elim
    | panic ch => exact hp.elim
    | outgrown => exact hp.elim
  · rintro e W2 ⟨⟨v, rfl⟩, (⟨hi, hl, hk⟩ | ⟨pre, hpre, hi, hl, hk⟩)⟩
    · have hlt := (Array.getElem?_eq_some_iff.1 hl).1
      refine ⟨none, _, by have := run_endLoop (P := P) hl (by rw [hrec]; simp); rw [hrec] at this; exact this, ?_⟩
      exact hdone _ (hI _ _ _ hi (hput _ _ hlt)) ((World.putObj_heap_other (by omega)).trans hk)
    · refine ⟨some .ret, _, by have := run_endLoop (P := P) hl (by rw [hrec]; simp); rw [hrec] at this; exact this, ?_⟩
      exact hstop pre _ hpre (hIx _ _ _ _ hi hl) ((World.putObj_heap_other (by omega)).trans hk)
end Go.Proofs.YtecpeegbfeijaaaGreatDoor

namespace Go.Proofs.YtecpeegbfeijaaaGreatDoor
set_option maxRecDepth 100000

/-- All rows that go on from one by k numbers more, none twice, the least first. -/
def exts (many : Nat) : Nat → List Nat → List (List Nat)
  | 0, r => [r]
  | k + 1, r => (List.range many).flatMap fun i => if i ∈ r then [] else exts many k (r ++ [i])
/-- Those of the first j numbers. -/
def extsTo (many k : Nat) (r : List Nat) (j : Nat) : List (List Nat) := (List.range j).flatMap fun i => if i ∈ r then [] else exts many k (r ++ [i])
theorem extsTo_succ (many k : Nat) (r : List Nat) (j : Nat) : extsTo many k r (j + 1) = extsTo many k r j ++ if j ∈ r then [] else exts many k (r ++ [j]) := by
  unfold extsTo; rw [List.range_succ, List.flatMap_append]; simp
theorem extsTo_zero (many k : Nat) (r : List Nat) : extsTo many k r 0 = [] := rfl
theorem exts_all (many k : Nat) (r : List Nat) : exts many (k + 1) r = extsTo many k r many := rfl
theorem extsTo_prefix (many k : Nat) (r : List Nat) {i j : Nat} (h : i ≤ j) : extsTo many k r i <+: extsTo many k r j := by
  induction h with
  | refl => exact List.prefix_rfl
  | step _ ih => exact ih.trans (by rw [extsTo_succ]; exact List.prefix_append _ _)
theorem mem_exts {many : Nat} : ∀ {k : Nat} {r x : List Nat}, x ∈ exts many k r → (r.Nodup → x.Nodup) ∧ ((∀ i ∈ r, i < many) → ∀ i ∈ x, i < many) ∧ x.length = r.length + k ∧ r <+: x
  | 0, r, x, h => by
    obtain rfl : x = r := by simpa [exts] using h
    exact ⟨id, id, rfl, List.prefix_rfl⟩
  | k + 1, r, x, h => by
    simp only [exts, List.mem_flatMap, List.mem_range] at h
    obtain ⟨i, hi, hx⟩ := h
    split at hx
    · cases hx
    · next hn =>
      obtain ⟨a, b, c, d⟩ := mem_exts hx
      refine ⟨fun hr => a (by rw [List.nodup_append]; refine ⟨hr, by simp, fun u hu v hv e => ?_⟩; simp at hv; subst hv; subst e; exact hn hu), fun hr => b fun u hu => ?_, ?_, (List.prefix_append _ _).trans d⟩
      · rcases List.mem_append.1 hu with hu | hu
        · exact hr u hu
        · simp at hu; omega
      · rw [c, List.length_append, List.length_singleton]; omega
/-- All orders of so many numbers. -/
def ordersN (n : Nat) : List (List Nat) := exts n n []
/-- The first row by which p is has none ahead of it that begins as it does and goes on with a lesser number. -/
theorem first_least {many : Nat} {p : List Nat → Bool} : ∀ {k : Nat} {r x : List Nat}, (exts many k r).find? p = some x → ∀ (j : Nat) (hj : j < x.length), r.length ≤ j → ∀ y, y < x[j] → y ∉ x.take j →
    (exts many (r.length + k - (j + 1)) (x.take j ++ [y])).any p = false
  | 0, r, x, h, j, hj, hr, y, _, _ => by
    have := (mem_exts (List.mem_of_find?_eq_some h)).2.2.1
    omega
  | k + 1, r, x, h, j, hj, hr, y, hy, hn => by
    have hmem := mem_exts (List.mem_of_find?_eq_some h)
    rw [exts_all] at h
    -- the block in which it is
    have key : ∀ m, (extsTo many k r m).find? p = some x → ∃ i, i < m ∧ i ∉ r ∧ (exts many k (r ++ [i])).find? p = some x ∧ ∀ u, u < i → u ∉ r → (exts many k (r ++ [u])).any p = false := by
      intro m
      induction m with
      | zero => intro h; rw [extsTo_zero] at h; cases h
      | succ m ih =>
        intro h
        rw [extsTo_succ, List.find?_append] at h
        cases e : (extsTo many k r m).find? p with
        | some z =>
          rw [e] at h
          obtain rfl : z = x := by simpa using h
          obtain ⟨i, a, b, c, d⟩ := ih e
          exact ⟨i, by omega, b, c, d⟩
        | none =>
          rw [e] at h
          simp only [Option.none_or] at h
          split at h
          · cases h
          · next hm =>
            refine ⟨m, by omega, hm, h, fun u hu hur => ?_⟩
            rw [List.find?_eq_none] at e
            rw [List.any_eq_false]
            intro z hz
            refine e z ?_
            unfold extsTo
            rw [List.mem_flatMap]
            exact ⟨u, List.mem_range.2 hu, by rw [if_neg hur]; exact hz⟩
    obtain ⟨i, hi, hir, hx, hless⟩ := key many h
    have hpre := (mem_exts (List.mem_of_find?_eq_some hx)).2.2.2
    obtain ⟨t, rfl⟩ := hpre
    rcases Nat.eq_or_lt_of_le hr with e | hlt
    · subst e
      have hxi : (r ++ [i] ++ t)[r.length] = i := by simp
      rw [hxi] at hy
      have htk : (r ++ [i] ++ t).take r.length = r := by simp
      rw [htk] at hn ⊢
      have := hless y hy hn
      have e2 : r.length + (k + 1) - (r.length + 1) = k := by omega
      rw [e2]; exact this
    · have := first_least hx j hj (by simp; omega) y hy hn
      have e2 : (r ++ [i]).length + k - (j + 1) = r.length + (k + 1) - (j + 1) := by simp; omega
      rw [e2] at this
      exact this
/-- As the reference counts: each of those that are left comes next. -/
def cntL (p : List Nat → Bool) : Nat → List Nat → List Nat → Nat
  | 0, r, _ => if p r then 1 else 0
  | k + 1, r, left => (left.map fun x => cntL p k (r ++ [x]) (left.filter (· != x))).sum
def restN (many : Nat) (r : List Nat) : List Nat := (List.range many).filter fun i => decide (i ∉ r)
theorem rest_next (many : Nat) (r : List Nat) (x : Nat) : (restN many r).filter (· != x) = restN many (r ++ [x]) := by
  unfold restN
  rw [List.filter_filter]
  refine List.filter_congr fun i _ => ?_
  rw [Bool.eq_iff_iff]
  simp
  exact And.comm
theorem cntL_exts (many : Nat) (p : List Nat → Bool) : ∀ (k : Nat) (r : List Nat), cntL p k r (restN many r) = (exts many k r).countP p
  | 0, r => by simp [cntL, exts, List.countP_singleton]
  | k + 1, r => by
    simp only [cntL, exts]
    have key : ∀ l : List Nat, ((l.filter fun i => decide (i ∉ r)).map fun x => cntL p k (r ++ [x]) ((restN many r).filter (· != x))).sum = (l.flatMap fun i => if i ∈ r then [] else exts many k (r ++ [i])).countP p := by
      intro l
      induction l with
      | nil => rfl
      | cons i l ih =>
        rw [List.flatMap_cons, List.countP_append, ← ih, List.filter_cons]
        by_cases h : i ∈ r
        · simp [h]
        · rw [if_pos (by simpa using h), if_neg h, List.map_cons, List.sum_cons, rest_next, cntL_exts many p k (r ++ [i])]
    exact key (List.range many)
end Go.Proofs.YtecpeegbfeijaaaGreatDoor

namespace Go.Proofs.YtecpeegbfeijaaaGreatDoor
set_option maxRecDepth 100000
open Go.RowKit Go.Shelf

set_option maxHeartbeats 1000000 in
theorem contains_any (v : Value) (l : List Int) (n : Int) (w : World) (hv : Ints w v l) :
    Calls Tryz.prog 158 #[v, .int .i64 n] w fun e w' => e = .returned (.bool (decide (n ∈ l))) ∧ w = w' := by
  have C := Lib.hid (index_any v l n w hv)
  obtain ⟨ao, cap, rfl, hlen⟩ := hv.form
  go_enter Tryz.func158, Tryz.ntmps158
  go_wp2_with fail
  refine C.out.mono ?_
  rintro e w' ⟨⟨k, hk, he, rfl⟩ | ⟨hn, rfl⟩, rfl⟩
  · have HV : Hid (true = decide (n ∈ l)) := Lib.hid (by symm; rw [decide_eq_true_eq, ← he]; exact List.getElem_mem hk)
    clear he C
    have h0 : (0 : Int) ≤ (k : Int) := by omega
    go_wp2_with fail
    go_ret
    exact ⟨ret_b HV.out, rfl⟩
  · have HV : Hid (false = decide (n ∈ l)) := Lib.hid (by symm; rw [decide_eq_false_iff_not]; exact hn)
    clear hn C
    go_wp2_with fail
    go_ret
    exact ⟨ret_b HV.out, rfl⟩
theorem infoIntC : (Tryz.prog.info? 3).map (fun i => (i.zero, i.size, i.bytes)) = some (some (.int .i64 0), 1, 8) := by kernel_rfl
/-- What is appended to a slice without room behind it lies in new memory. -/
theorem run_append_full {w : World} (ty : TypeId) {ao : Option Addr} {l : List Nat} (hr : Ints w (.slice ao l.length l.length) (l.map Int.ofNat)) (ad : Addr) (c k : Nat) (hnew : w.cell? ad = some (.int .i64 (k : Int))) (hl : l.length ≤ 1000) :
    ∃ v' w', Sem.run Tryz.prog (Builtin.append_ #[29, 29] ty #[.slice ao l.length l.length, .slice (some ad) 1 c]) w = .ok v' w' ∧ RowHi w.heap.size w' v' (l ++ [k]) ∧ Below w.heap.size w w' := by
  obtain ⟨i0, hi0, hz0, hz1, hz2⟩ := info_parts infoIntC
  have hnews : ∀ j u, [Value.int .i64 (k : Int)][j]? = some u → w.cell? (ad.add j) = some u := fun j u hu => by
    cases j with
    | zero => simp at hu; subst hu; simpa [Addr.add] using hnew
    | succ j => simp at hu
  have hfin : ∀ v' (w' : World), w'.ownsRow w.heap.size 3 1 v' (l.length + 1) ((l.map fun i : Nat => .int .i64 (i : Int)) ++ [.int .i64 (k : Int)]) → RowHi w.heap.size w' v' (l ++ [k]) := fun v' w' ho => by
    refine ⟨?_, fun g hg => (ho.lt g hg).1⟩
    have h1 := Row.of_owns ho
    unfold Ints
    have e1 : ((l ++ [k]).map Int.ofNat).length = l.length + 1 := by simp
    have e2 : ((l ++ [k]).map Int.ofNat).map (Value.int .i64) = (l.map fun i : Nat => .int .i64 (i : Int)) ++ [.int .i64 (k : Int)] := by simp [Function.comp_def]
    rw [e1, e2]; exact h1
  obtain ⟨hcl, ao', cap', e, hm, hno, hc⟩ := hr
  have hlen : (l.map Int.ofNat).length = l.length := by simp
  rw [hlen] at hm hno hc
  obtain ⟨rfl, _⟩ : ao = ao' ∧ l.length = cap' := by simpa using e
  cases ao with
  | none =>
    have h0 := (hno rfl).1
    have hl0 : l = [] := List.length_eq_zero_iff.1 h0
    subst hl0
    obtain ⟨g, cap, w', hr, h2, h3, h4, h5⟩ := run_append_lies (P := Tryz.prog) w 29 ty w.heap.size 3 i0 (.int .i64 0) 1 8 Tryz.underlying29 hi0 hz0 hz1 hz2 rfl (by decide) (.slice none 0 0) 0 [] (World.ownsRow_nil _ _ _ _) ad 1 c _ rfl hnews (by intro u hu; simp at hu; subst hu; rfl) (by decide) (by unfold maxLen; omega) (by omega) (Nat.le_refl _) _ rfl
    exact ⟨_, w', hr, hfin _ _ h2, (Below.refl _ _).grown h3 (Nat.le_refl _) (fun j hj => by cases hj)⟩
  | some b =>
    have holds : ∀ j u, (l.map fun i : Nat => Value.int .i64 (i : Int))[j]? = some u → w.cell? (b.add j) = some u := fun j u hu => by
      have hj : j < l.length := by
        have := (List.getElem?_eq_some_iff.1 hu).1
        simpa using this
      obtain ⟨g, off, e2, hcell⟩ := hc (by omega)
      obtain rfl : b = ⟨g, off, none⟩ := by injection e2
      rw [Addr.add_lit]
      rw [hcell j (by omega), ← hu, List.map_map]; rfl
    obtain ⟨v', w', hr, h2, h3⟩ := run_append_arg_grows (P := Tryz.prog) w 29 ty 3 i0 (.int .i64 0) 1 8 Tryz.underlying29 hi0 hz0 hz1 hz2 rfl (by decide) b l.length l.length _ (by simp) holds ad 1 c _ rfl hnews (by omega) (by unfold maxLen; omega) (by omega)
    exact ⟨v', w', hr, hfin _ _ h2, (Below.refl _ _).grown h3 (Nat.le_refl _) (fun j hj => by cases hj)⟩
theorem RowHi.below {D : Nat} {W W' : World} {v : Value} {r : List Nat} (h : RowHi D W v r) (hb : Below W.heap.size W W') : RowHi D W' v r := ⟨h.1.below hb, h.2⟩
theorem RowHi.form {D : Nat} {W : World} {v : Value} {r : List Nat} (h : RowHi D W v r) : ∃ ao cap, v = .slice ao r.length cap := by
  obtain ⟨ao, cap, e, _⟩ := h.1.form
  rw [List.length_map] at e
  exact ⟨ao, cap, e⟩
theorem RowHi.full {D : Nat} {W : World} {ao : Option Addr} {n cap : Nat} {r : List Nat} (h : RowHi D W (.slice ao n cap) r) : Ints W (.slice ao r.length r.length) (r.map Int.ofNat) := by
  obtain ⟨⟨_, ao', cap', e, hm, hno, hc⟩, _⟩ := h
  obtain ⟨rfl, _, _⟩ : ao = ao' ∧ n = _ ∧ cap = cap' := by simpa using e
  rw [List.length_map] at hm hno hc
  unfold Ints
  rw [List.length_map]
  exact ⟨by simp, ao, r.length, rfl, ⟨Nat.le_refl _, by omega⟩, fun e => by have := (hno e).1; omega, hc⟩
end Go.Proofs.YtecpeegbfeijaaaGreatDoor

namespace Go.Proofs.YtecpeegbfeijaaaGreatDoor
set_option maxRecDepth 100000
open Go.RowKit Go.Shelf
attribute [local go_sem] Oper.semAt_some

/-- What comes of a call that hands over some rows: all have come, or one has said 'no more'. -/
def Handed (D : Nat) (J Jx : List (List Nat) → World → Prop) (pre E : List (List Nat)) (W : World) (e : Ending) (B : World) : Prop :=
  (e = .returned (.bool true) ∧ J (pre ++ E) B ∧ KeepsHi D W B) ∨ (e = .returned (.bool false) ∧ ∃ q, q <+: E ∧ Jx (pre ++ q) B)
/-- The append, for the walk, where it stands behind a test. -/
theorem wpList_append_full (w : World) {ops : Array Oper} {rest : List Oper} {o : Oper} {a : Act} {Q : Exit → Act → World → Prop} (s x : Operand)
    (ho : o.op = .call { callee := .builtin .append, args := #[s, x], argTypes := #[29, 29] }) (hw : Region.wanted o (yielded ops a.tmps) = true) {vs vx v' : Value} {w' : World} (hs : a.eval s = vs) (hx : a.eval x = vx)
    (hrun : Sem.run Tryz.prog (Builtin.append_ #[29, 29] o.type #[vs, vx]) w = .ok v' w') (h : wpList Tryz.prog ops Q rest (a.put o.dst v') w') : wpList Tryz.prog ops Q (o :: rest) a w := by
  refine wpList_step fun K hK => ?_
  rw [if_pos hw]
  unfold Oper.wp execOp
  simp only [ho, resolve, invoke, builtin, Sem.run_bind, Sem.run_pure, Result.andThen_ok, List.map_toArray, List.map_cons, List.map_nil, hs, hx, hrun]
  exact hK _ _ h
theorem mem_ints {r : List Nat} {j : Nat} (h : j ∈ r) : decide ((j : Int) ∈ r.map Int.ofNat) = true := by rw [decide_eq_true_eq]; exact List.mem_map.2 ⟨j, h, rfl⟩
theorem not_mem_ints {r : List Nat} {j : Nat} (h : j ∉ r) : decide ((j : Int) ∈ r.map Int.ofNat) = false := by
  rw [decide_eq_false_iff_not, List.mem_map]
  rintro ⟨x, hx, e⟩
  obtain rfl : x = j := Int.ofNat.inj e
  exact h hx
set_option maxRecDepth 100000 in
set_option maxHeartbeats 4000000 in
theorem further_any (l D many : Nat) (L : List (List Nat)) (J Jx : List (List Nat) → World → Prop) (hJ : Stays D J) (hm : many ≤ 64)
    (hY : ∀ (m : Nat) pre v r A, J pre A → RowHi D A v r → (pre ++ [r]) <+: L → YieldAt Fence.wide m Tryz.prog l #[v] A fun e B =>
      (e = .returned (.bool true) ∧ J (pre ++ [r]) B ∧ KeepsHi D A B) ∨ (e = .returned (.bool false) ∧ Jx (pre ++ [r]) B)) :
    ∀ (k : Nat) (v : Value) (r : List Nat) (pre : List (List Nat)) (W : World), RowHi D W v r → r.length + k = many → (pre ++ exts many k r) <+: L → D ≤ W.heap.size → J pre W →
      Calls Tryz.prog 119 #[.int .i64 (many : Int), v, .func (.yield l) #[] #[]] W fun e B => Handed D J Jx pre (exts many k r) W e B
  | 0, v, r, pre, W, hr, hlen, hL, hD, hj => by
    have hy := hY 1 pre v r W hj hr hL
    obtain ⟨fn, tmps, assign, body, hy, hR⟩ := hy
    obtain ⟨ao, cap, rfl⟩ := hr.form
    obtain rfl : r.length = many := by omega
    clear hlen hm hD hY
    refine (callsIn_wide (n := 2)).1 ?_
    refine callsIn_of_wp Tryz.func119 rfl trivial ?_ rfl
    simp only [Tryz.ntmps119, List.size_toArray, List.length_cons, List.length_nil, Nat.reduceAdd, Nat.reduceSub, Array.replicate_succ, Array.replicate_zero, List.push_toArray, List.append_toArray, List.nil_append, List.cons_append]
    gi_wp2_with (first
      | (refine ⟨fun h => (by cases h), ?_⟩; refine hR.mono ?_; rintro e B (⟨rfl, hj2, hk2⟩ | ⟨rfl, hx2⟩))
      | (refine hR.mono ?_; rintro e B (⟨rfl, hj2, hk2⟩ | ⟨rfl, hx2⟩)))
    · go_ret
      exact .inl ⟨rfl, hj2, hk2⟩
    · go_ret
      exact .inr ⟨rfl, [r], List.prefix_rfl, hx2⟩
  | k + 1, v, r, pre, W, hr, hlen, hL, hD, hj => by
    have IH := Lib.hid (fun v r pre W a b c d e => further_any l D many L J Jx hJ hm hY k v r pre W a b c d e)
    have HR := Lib.hid hr
    have HL := Lib.hid hL
    obtain ⟨ao, cap, rfl⟩ := hr.form
    have hb1 : ((r.length : Int) == (many : Int)) = false := by rw [beq_eq_false_iff_ne]; omega
    have HG := Lib.hid hlen
    have HF := Lib.hid (fun wx (hx : KeepsHi D W wx) => (hr.kept hx).full)
    have hcap : r.length ≤ cap := by
      obtain ⟨⟨_, ao', cap', e, hm', _⟩, _⟩ := hr
      rw [List.length_map] at e hm'
      obtain ⟨_, _, rfl⟩ : ao = ao' ∧ r.length = r.length ∧ cap = cap' := by simpa using e
      exact hm'.1
    clear hlen hL hr hY
    go_enter Tryz.func119, Tryz.ntmps119
    go_wp2_with fail
    go_loopw [16] (fun i wr => ∃ j : Nat, j ≤ many ∧ i = .int .i64 (j : Int) ∧ Hid (J (pre ++ extsTo many k r j) wr) ∧ Hid (KeepsHi D W wr)) (fun i _ => many - (intOf i).toNat)
    case atStart => exact ⟨0, by omega, rfl, Lib.hid (by rw [extsTo_zero, List.append_nil]; exact hj), Lib.hid (KeepsHi.refl _ _)⟩
    case round =>
      clear hj
      obtain ⟨j, hjm, rfl, HJ, HK⟩ := hrel
      by_cases hlt : (j : Int) < (many : Int)
      · have CC := Lib.hid (contains_any (.slice ao r.length cap) (r.map Int.ofNat) (j : Int) wr (HR.out.kept HK.out).1)
        by_cases hin : j ∈ r
        · have HS : Hid (extsTo many k r (j + 1) = extsTo many k r j) := Lib.hid (by rw [extsTo_succ, if_pos hin, List.append_nil])
          rw [mem_ints hin] at CC
          clear hin
          go_wp2_with fail
          refine CC.out.mono ?_
          rintro e wq ⟨rfl, rfl⟩
          go_wp2_with fail
          go_roundw
          case rel => exact ⟨j + 1, by omega, rfl, Lib.hid (by rw [HS.out]; exact HJ.out), HK⟩
          case measure => simp only [intOf]; omega
        · have HS : Hid (extsTo many k r (j + 1) = extsTo many k r j ++ exts many k (r ++ [j])) := Lib.hid (by rw [extsTo_succ, if_neg hin])
          rw [not_mem_ints hin] at CC
          clear hin
          have hDw : D ≤ wr.heap.size := Nat.le_trans hD HK.out.size
          have hcell : (wr.alloc (.cells #[.int .i64 (j : Int)] 3)).cell? ⟨wr.heap.size, 0, none⟩ = some (.int .i64 (j : Int)) := by
            rw [cell_of_row _ _ _ _ _ _ (heap_alloc_new wr _)]; rfl
          have hbw : Below wr.heap.size wr (wr.alloc (.cells #[.int .i64 (j : Int)] 3)) := (Below.refl _ _).alloc (Nat.le_refl _) _
          obtain ⟨v2, w2, hap, hr2, hb2⟩ := run_append_full 29 (w := wr.alloc (.cells #[.int .i64 (j : Int)] 3)) (ao := ao) (l := r) ((HF.out wr HK.out).below hbw) ⟨wr.heap.size, 0, none⟩ 1 j hcell (by have := HG.out; omega)
          have hb3 : Below wr.heap.size wr w2 := hbw.trans (hb2.mono hbw.size)
          have HI := Lib.hid (IH.out v2 (r ++ [j]) (pre ++ extsTo many k r j) w2 ⟨hr2.1, fun g hg => Nat.le_trans hDw (Nat.le_trans hbw.size (hr2.2 g hg))⟩ (by have := HG.out; simp; omega)
            (by have h1 := HL.out; rw [List.append_assoc, ← HS.out]; exact ((List.prefix_append_right_inj pre).2 (by rw [exts_all]; exact extsTo_prefix many k r (by omega))).trans h1) (Nat.le_trans hDw hb3.size) (hJ _ _ _ HJ.out (hb3.mono hDw)))
          have HK2 : Hid (KeepsHi D W w2) := Lib.hid (HK.out.trans (KeepsHi.of_below hb3))
          have HP : Hid (∀ q, q <+: exts many k (r ++ [j]) → extsTo many k r j ++ q <+: exts many (k + 1) r) := Lib.hid (fun q hq => ((List.prefix_append_right_inj _).2 hq).trans (by rw [← HS.out, exts_all]; exact extsTo_prefix many k r (by omega)))
          obtain ⟨ao2, cap2, rfl⟩ := hr2.form
          rw [List.length_append, List.length_singleton] at HI hap
          have HA := Lib.hid hap
          clear hcell hbw hr2 hb2 hb3 IH hap
          cases ao with
          | none =>
            go_wp2_with fail
            refine CC.out.mono ?_
            rintro e wq ⟨rfl, rfl⟩
            go_wp2_with (first
              | (at_builtin; refine wpList_append_full _ _ _ rfl (by kernel_rfl) rfl rfl HA.out ?_)
              | (go_at_call 119; refine HI.out.mono ?_; rintro e B (⟨rfl, hj2, hk2⟩ | ⟨rfl, q, hq, hx2⟩)))
            · go_roundw
              case rel => exact ⟨j + 1, by omega, rfl, Lib.hid (by rw [HS.out, ← List.append_assoc]; exact hj2), Lib.hid (HK2.out.trans hk2)⟩
              case measure => simp only [intOf]; omega
            · go_ret
              exact .inr ⟨rfl, _, HP.out q hq, by rw [← List.append_assoc]; exact hx2⟩
          | some ad =>
            go_wp2_with fail
            refine CC.out.mono ?_
            rintro e wq ⟨rfl, rfl⟩
            go_wp2_with (first
              | (at_builtin; refine wpList_append_full _ _ _ rfl (by kernel_rfl) rfl rfl HA.out ?_)
              | (go_at_call 119; refine HI.out.mono ?_; rintro e B (⟨rfl, hj2, hk2⟩ | ⟨rfl, q, hq, hx2⟩)))
            · go_roundw
              case rel => exact ⟨j + 1, by omega, rfl, Lib.hid (by rw [HS.out, ← List.append_assoc]; exact hj2), Lib.hid (HK2.out.trans hk2)⟩
              case measure => simp only [intOf]; omega
            · go_ret
              exact .inr ⟨rfl, _, HP.out q hq, by rw [← List.append_assoc]; exact hx2⟩
      · have HV : Hid (exts many (k + 1) r = extsTo many k r j) := Lib.hid (by rw [exts_all, show j = many by omega])
        go_wp2_with fail
        go_ret
        exact .inl ⟨rfl, by rw [HV.out]; exact HJ.out, HK.out⟩
end Go.Proofs.YtecpeegbfeijaaaGreatDoor

namespace Go.Proofs.YtecpeegbfeijaaaGreatDoor
set_option maxRecDepth 100000
open Go.RowKit

set_option maxHeartbeats 4000000 in
theorem asees_any (R : Mat) (i : Int) (w : World) :
    Calls Tryz.prog 123 #[.agg (rowsA R), .int .i64 i] w fun e w' => e = .returned (.int .u64 ((seeTo R i 64 : Nat) : Int)) ∧ Below w.heap.size w w' := by
  have r0 : RelAt (w.alloc (.cells (rowsA R) 97)) w.heap.size 97 R := RelAt.made w _ _ rfl rfl
  have hb0 := box_below w (.cells (rowsA R) 97)
  go_enter Tryz.func123, Tryz.ntmps123
  go_wp2_with fail
  go_loopw [5, 7] (fun s k wr => ∃ n : Nat, n ≤ 64 ∧ k = .int .i64 n ∧ s = .int .u64 ((seeTo R i n : Nat) : Int) ∧ RelAt wr w.heap.size 97 R ∧ Below w.heap.size w wr) (fun _ k _ => 64 - (intOf k).toNat)
  case atStart => exact ⟨0, by omega, rfl, rfl, r0, hb0⟩
  case round =>
    obtain ⟨n, hn, rfl, rfl, hr, hb⟩ := hrel
    clear r0 hb0
    have hset := seeTo_set R i n
    by_cases hlt : n < 64
    · have hni : (n : Int) < 64 := by omega
      have HS := Lib.hid (seeTo_succ R i n)
      go_wp2_with (with_reducible refine wpList_load_rel hr rfl _ rfl rfl ?_)
      refine (rhasR_any _ _ _ _).mono ?_
      rintro e w1 ⟨rfl, hb1⟩
      have hr1 := hr.below hb1 hr.lt
      have hbb := hb.trans (hb1.mono hb.size)
      clear hr hb
      cases hh : hasR R (n : Int) i with
      | true =>
        have HV : Hid (withS (seeTo R i n) (n : Int) = seeTo R i (n + 1)) := Lib.hid (by rw [HS.out, hh]; rfl)
        clear hh HS
        generalize seeTo R i n = a at *
        go_wp2_with fail
        refine (with_any _ _ _ hset).mono ?_
        rintro e w2 ⟨rfl, rfl⟩
        go_wp2_with fail
        go_roundw
        case rel => exact ⟨n + 1, by omega, by go_num, by rw [HV.out], hr1, hbb⟩
        case measure => simp [intOf]; omega
      | false =>
        have HV : Hid (seeTo R i n = seeTo R i (n + 1)) := Lib.hid (by rw [HS.out, hh]; rfl)
        clear hh HS
        go_wp2_with fail
        go_roundw
        case rel => exact ⟨n + 1, by omega, by go_num, by rw [HV.out], hr1, hbb⟩
        case measure => simp [intOf]; omega
    · have hn2 : n = 64 := by omega
      subst hn2
      go_wp2_with fail
      go_ret
      exact ⟨rfl, hb⟩
set_option maxRecDepth 100000 in
set_option maxHeartbeats 8000000 in
theorem arivals_any (A : Mat) (h : List TxnV) (B b : Nat) (w : World) (hO : OrdIs w B b h) (hc : checkI h = 0) :
    Calls Tryz.prog 169 #[.pointer (some ⟨B, 0, none⟩), .agg (rowsA A)] w fun e w' => e = .returned (.agg (rowsA (rivM h A))) ∧ Below w.heap.size w w' := by
  have CRH := Lib.hid (fun (i : Nat) wx (hx : Below w.heap.size w wx) => ordis_rivals (hO.below hx) hc i)
  have e0 : rowsA A = rowsA (rivTo h A 0) := rowsA_congr fun i j _ _ => by unfold rivTo; rw [if_neg (by omega)]
  have r0 : RelAt (w.alloc (.cells (rowsA A) 97)) w.heap.size 97 (rivTo h A 0) := RelAt.made w _ _ rfl e0
  have z0 := zero_block (w.alloc (.cells (rowsA A) 97))
  rw [show (w.alloc (.cells (rowsA A) 97)).heap.size = w.heap.size + 1 from by simp] at z0
  have r0 := r0.alloc (.cells #[.int .u64 0, .int .u64 0, .int .u64 0, .int .u64 0, .int .u64 0, .int .u64 0, .int .u64 0, .int .u64 0, .int .u64 0, .int .u64 0, .int .u64 0, .int .u64 0, .int .u64 0, .int .u64 0, .int .u64 0, .int .u64 0, .int .u64 0, .int .u64 0, .int .u64 0, .int .u64 0, .int .u64 0, .int .u64 0, .int .u64 0, .int .u64 0, .int .u64 0, .int .u64 0, .int .u64 0, .int .u64 0, .int .u64 0, .int .u64 0, .int .u64 0, .int .u64 0, .int .u64 0, .int .u64 0, .int .u64 0, .int .u64 0, .int .u64 0, .int .u64 0, .int .u64 0, .int .u64 0, .int .u64 0, .int .u64 0, .int .u64 0, .int .u64 0, .int .u64 0, .int .u64 0, .int .u64 0, .int .u64 0, .int .u64 0, .int .u64 0, .int .u64 0, .int .u64 0, .int .u64 0, .int .u64 0, .int .u64 0, .int .u64 0, .int .u64 0, .int .u64 0, .int .u64 0, .int .u64 0, .int .u64 0, .int .u64 0, .int .u64 0, .int .u64 0] 97)
  have hb0 := (box_below w (.cells (rowsA A) 97)).alloc (by simp) (.cells #[.int .u64 0, .int .u64 0, .int .u64 0, .int .u64 0, .int .u64 0, .int .u64 0, .int .u64 0, .int .u64 0, .int .u64 0, .int .u64 0, .int .u64 0, .int .u64 0, .int .u64 0, .int .u64 0, .int .u64 0, .int .u64 0, .int .u64 0, .int .u64 0, .int .u64 0, .int .u64 0, .int .u64 0, .int .u64 0, .int .u64 0, .int .u64 0, .int .u64 0, .int .u64 0, .int .u64 0, .int .u64 0, .int .u64 0, .int .u64 0, .int .u64 0, .int .u64 0, .int .u64 0, .int .u64 0, .int .u64 0, .int .u64 0, .int .u64 0, .int .u64 0, .int .u64 0, .int .u64 0, .int .u64 0, .int .u64 0, .int .u64 0, .int .u64 0, .int .u64 0, .int .u64 0, .int .u64 0, .int .u64 0, .int .u64 0, .int .u64 0, .int .u64 0, .int .u64 0, .int .u64 0, .int .u64 0, .int .u64 0, .int .u64 0, .int .u64 0, .int .u64 0, .int .u64 0, .int .u64 0, .int .u64 0, .int .u64 0, .int .u64 0, .int .u64 0] 97)
  clear hO hc e0
  go_enter Tryz.func169, Tryz.ntmps169
  go_wp2_with fail
  go_loopw [6] (fun i wr => ∃ k : Nat, k ≤ 64 ∧ i = .int .i64 k ∧ RelAt wr w.heap.size 97 (rivTo h A k) ∧ RelAt wr (w.heap.size + 1) 97 noR ∧ Below w.heap.size w wr) (fun i _ => 64 - (intOf i).toNat)
  case atStart => exact ⟨0, by omega, rfl, r0, z0, hb0⟩
  case round =>
    obtain ⟨k, hk, rfl, hR, hz, hb⟩ := hrel
    clear r0 z0 hb0
    by_cases hlt : k < 64
    · have hki : (k : Int) < 64 := by omega
      have hda : decide ((k : Int) < 64) = true := decide_eq_true hki
      have kd := (Below.refl wr.heap.size wr).drew
      have HAND : Go.bits .and .u64 ((mkS (rivTo h A k k) : Nat) : Int) ((rivN h k : Nat) : Int) = ((mkS (fun j => A k j && rivB h k j) : Nat) : Int) := by rw [rivTo_at]; exact u64_and _ _
      have HR : Hid (∀ wx, Below wr.heap.size wr wx → RelAt wx w.heap.size 97 (rivTo h A k)) := Lib.hid (fun wx hx => hR.below hx hR.lt)
      have CR := Lib.hid (fun wx (hx : Below wr.heap.size wr wx) => CRH.out k wx (hb.trans (hx.mono hb.size)))
      have HS : Hid (∀ wx, Below wr.heap.size wr wx → True) := Lib.hid (fun _ _ => trivial)
      have HN : Hid (∀ wx, Below wr.heap.size wr wx → RelAt (wx.setCell ⟨w.heap.size, k, none⟩ (.int .u64 ((mkS (fun j => A k j && rivB h k j) : Nat) : Int))) w.heap.size 97 (rivTo h A (k + 1))) := Lib.hid (fun wx hx => by
        have := (hR.below hx hR.lt).store k _ (fun j => A k j && rivB h k j) rfl
        rwa [rivTo_step] at this)
      have HBS : Hid (∀ wx, Below wr.heap.size wr wx → Below w.heap.size w (wx.setCell ⟨w.heap.size, k, none⟩ (.int .u64 ((mkS (fun j => A k j && rivB h k j) : Nat) : Int)))) := Lib.hid (fun wx hx => (hb.trans (hx.mono hb.size)).setCell (p := ⟨w.heap.size, k, none⟩) (Nat.le_refl _) _)
      have HZS : Hid (∀ wx, Below wr.heap.size wr wx → RelAt (wx.setCell ⟨w.heap.size, k, none⟩ (.int .u64 ((mkS (fun j => A k j && rivB h k j) : Nat) : Int))) (w.heap.size + 1) 97 noR) := Lib.hid (fun wx hx => (hz.below hx hz.lt).other (k := ⟨w.heap.size, k, none⟩) (by simp) _)
      clear hR hz hb CRH
      generalize mkS (fun j => A k j && rivB h k j) = z at *
      generalize rivN h k = y at *
      go_wp2_with fail
      refine wp_region_held_drew (S := fun _ => True) (by kernel_rfl) trivial (fun hS0 => ?_)
      refine takeG (some 9) (i := 0) (v := ?v0) rfl rfl (by kernel_rfl) (by kernel_rfl) (by kernel_rfl) (fun _ _ _ h => h) (Or.inl ⟨by rfl, ?h0⟩) hS0 ?r0
      case h0 => (intro w hw; go_simp; try (with_reducible rfl))
      try simp only [Act.put, List.setIfInBounds_toArray, List.set_cons_zero, List.set_cons_succ]
      refine takeG (some 10) (i := 1) (v := ?v1) rfl rfl (by kernel_rfl) (by kernel_rfl) (by kernel_rfl) (fun _ _ _ h => h) (Or.inl ⟨by rfl, ?h1⟩) hS0 ?r1
      case h1 => (intro w hw; go_simp; try (with_reducible rfl))
      try simp only [Act.put, List.setIfInBounds_toArray, List.set_cons_zero, List.set_cons_succ]
      refine takeG (some 12) (i := 3) (v := ?v3) rfl rfl (by kernel_rfl) (by kernel_rfl) (by kernel_rfl) (fun _ _ _ h => h) (Or.inl ⟨by rfl, ?h3⟩) hS0 ?r3
      case h3 => (intro w hw; go_simp; try (with_reducible rfl))
      try simp only [Act.put, List.setIfInBounds_toArray, List.set_cons_zero, List.set_cons_succ]
      refine takeG (some 13) (i := 4) (v := ?v4) rfl rfl (by kernel_rfl) (by kernel_rfl) (by kernel_rfl) (fun _ _ _ h => h) (Or.inl ⟨by rfl, ?h4⟩) hS0 ?r4
      case h4 => (intro w hw; go_simp; try (with_reducible rfl))
      try simp only [Act.put, List.setIfInBounds_toArray, List.set_cons_zero, List.set_cons_succ]
      refine wpAnyH_ready (rs := [2, 5]) (by kernel_rfl) (by simp) ?_
      refine AllReadyH.cons rfl (fun K hK => ?_) (AllReadyH.cons rfl (fun K hK => ?_) AllReadyH.nil)
      ·
        have hc2 := (HR.out _ kd).cell hlt
        go_simp
        refine hK.out _ _ hS0 (fun _ => ?_)
        clear hK K hc2
        refine wpAnyH_ready (rs := [5]) (by kernel_rfl) (by simp) ?_
        refine AllReadyH.cons rfl (fun K hK => ?_) AllReadyH.nil
        go_simp
        refine (CR.out _ kd).mono ?_
        rintro e q1 ⟨rfl, hq1⟩
        show K _ _
        have k1 := below_then kd hq1
        have s1 := HS.out _ k1
        refine hK.out _ _ s1 (fun _ => ?_)
        clear hK K
        refine wpAnyH_ready (rs := [6]) (by kernel_rfl) (by simp) ?_
        refine AllReadyH.cons rfl (fun K hK => ?_) AllReadyH.nil
        go_simp
        refine hK.out _ _ s1 (fun _ => ?_)
        clear hK K
        refine wpAnyH_ready (rs := [7]) (by kernel_rfl) (by simp) ?_
        refine AllReadyH.cons rfl (fun K hK => ?_) AllReadyH.nil
        go_simp
        refine hK.out _ _ s1 (fun _ => ?_)
        clear hK K
        refine wpAnyH_ready (rs := [8]) (by kernel_rfl) (by simp) ?_
        refine AllReadyH.cons rfl (fun K hK => ?_) AllReadyH.nil
        have hc8 := (HR.out _ k1).cell hlt
        have hf8 := (HR.out _ k1).free k
        go_simp
        refine hK.out _ _ trivial (fun _ => ?_)
        clear hK K hc8 hf8
        refine wpAnyH_done (by kernel_rfl) ?_ _
        have hR9 := HN.out _ k1
        have hb9 := HBS.out _ k1
        have hz9 := HZS.out _ k1
        clear HR CR HN HBS HZS HS kd
        go_wp2_with fail
        go_roundw
        case rel => exact ⟨k + 1, by omega, by go_num, hR9, hz9, hb9⟩
        case measure => simp [intOf]; omega
      ·
        go_simp
        refine (CR.out _ kd).mono ?_
        rintro e q2 ⟨rfl, hq2⟩
        show K _ _
        have k2 := below_then kd hq2
        have s2 := HS.out _ k2
        refine hK.out _ _ s2 (fun _ => ?_)
        clear hK K
        refine wpAnyH_ready (rs := [2]) (by kernel_rfl) (by simp) ?_
        refine AllReadyH.cons rfl (fun K hK => ?_) AllReadyH.nil
        have hc2 := (HR.out _ k2).cell hlt
        go_simp
        refine hK.out _ _ s2 (fun _ => ?_)
        clear hK K hc2
        refine wpAnyH_ready (rs := [6]) (by kernel_rfl) (by simp) ?_
        refine AllReadyH.cons rfl (fun K hK => ?_) AllReadyH.nil
        go_simp
        refine hK.out _ _ s2 (fun _ => ?_)
        clear hK K
        refine wpAnyH_ready (rs := [7]) (by kernel_rfl) (by simp) ?_
        refine AllReadyH.cons rfl (fun K hK => ?_) AllReadyH.nil
        go_simp
        refine hK.out _ _ s2 (fun _ => ?_)
        clear hK K
        refine wpAnyH_ready (rs := [8]) (by kernel_rfl) (by simp) ?_
        refine AllReadyH.cons rfl (fun K hK => ?_) AllReadyH.nil
        have hc8 := (HR.out _ k2).cell hlt
        have hf8 := (HR.out _ k2).free k
        go_simp
        refine hK.out _ _ trivial (fun _ => ?_)
        clear hK K hc8 hf8
        refine wpAnyH_done (by kernel_rfl) ?_ _
        have hR9 := HN.out _ k2
        have hb9 := HBS.out _ k2
        have hz9 := HZS.out _ k2
        clear HR CR HN HBS HZS HS kd
        go_wp2_with fail
        go_roundw
        case rel => exact ⟨k + 1, by omega, by go_num, hR9, hz9, hb9⟩
        case measure => simp [intOf]; omega
    · have hk64 : k = 64 := by omega
      subst hk64
      go_wp2_with (first
        | (with_reducible refine wpList_load_rel hR rfl _ rfl rfl ?_)
        | (with_reducible refine wpList_store_rel hz (rivTo h A 64) rfl _ _ rfl rfl rfl ?_))
      have h3 := hz.setRow (rivTo h A 64)
      rw [rivTo_end] at h3
      exact bodyPost_ret (results_rel rfl _ _ _ _ rfl h3) rfl ⟨rfl, below_setRow hb (by omega) _⟩
/-- Which one of some comes last in a row; -1: none does. -/
def lastTo (l : List Int) (s : Nat) (k : Nat) : Int := (l.take k).foldl (fun f i => if hasB s i then i else f) (-1)
theorem lastTo_succ (l : List Int) (s k : Nat) (hk : k < l.length) : lastTo l s (k + 1) = if hasB s l[k] then l[k] else lastTo l s k := by
  unfold lastTo; rw [List.take_succ_eq_append_getElem hk, List.foldl_append]; rfl
def lastI (l : List Int) (s : Nat) : Int := lastTo l s l.length
set_option maxHeartbeats 4000000 in
theorem alast_any (va : Value) (l : List Int) (s : Nat) (w : World) (hs : IsSet s) (hl : Ints w va l) :
    Calls Tryz.prog 167 #[va, .int .u64 (s : Int)] w fun e w' => e = .returned (.int .i64 (lastI l s)) ∧ Below w.heap.size w w' := by
  have HL := Lib.hid (fun wx (hx : Below w.heap.size w wx) => hl.below hx)
  obtain ⟨ao, cap, rfl, hal⟩ := hl.form
  have HR : Hid (lastI l s = lastTo l s l.length) := Lib.hid rfl
  clear hl
  go_enter Tryz.func167, Tryz.ntmps167
  go_wp2_with fail
  go_loopw [5, 10] (fun f i wr => ∃ k : Nat, k ≤ l.length ∧ i = .int .i64 k ∧ f = .int .i64 (lastTo l s k) ∧ Below w.heap.size w wr) (fun _ i _ => l.length - (intOf i).toNat)
  case atStart => exact ⟨0, by omega, rfl, rfl, Below.refl _ _⟩
  case round =>
    obtain ⟨k, hk, rfl, rfl, hb⟩ := hrel
    by_cases hlt : k < l.length
    · have hki : (k : Int) < (l.length : Int) := by omega
      obtain ⟨g, o, hao, e0⟩ := (HL.out _ hb).at hlt
      cases hao
      have HN := Lib.hid (lastTo_succ l s k hlt)
      generalize l[k] = x at *
      generalize lastTo l s k = y at *
      go_wp2_with fail
      refine (has_any _ _ _ hs).mono ?_
      rintro e w1 ⟨rfl, rfl⟩
      cases hh : hasB s x with
      | true =>
        have HV : Hid (x = lastTo l s (k + 1)) := Lib.hid (by rw [HN.out, hh]; rfl)
        clear hh HN
        go_wp2_with fail
        go_roundw
        case rel => exact ⟨k + 1, by omega, by go_num, by rw [← HV.out], hb⟩
        case measure => simp [intOf]; omega
      | false =>
        have HV : Hid (y = lastTo l s (k + 1)) := Lib.hid (by rw [HN.out, hh]; rfl)
        clear hh HN
        go_wp2_with fail
        go_roundw
        case rel => exact ⟨k + 1, by omega, by go_num, by rw [← HV.out], hb⟩
        case measure => simp [intOf]; omega
    · have hk2 : k = l.length := by omega
      subst hk2
      go_wp2_with fail
      go_ret
      exact ⟨rfl, hb⟩
/-- Are these all numbers below n, each once? -/
def rowOkA (n : Int) (l : List Int) : Bool := decide ((l.length : Int) = n) && decide (setL l = belowS n)
set_option maxHeartbeats 4000000 in
theorem arow_any (n : Int) (va : Value) (l : List Int) (w : World) (hl : Ints w va l) :
    Calls Tryz.prog 120 #[.int .i64 n, va] w fun e w' => e = .returned (.bool (rowOkA n l)) ∧ w = w' := by
  have CO := Lib.hid (of_any va l w hl)
  have CB := Lib.hid (below_any n w)
  obtain ⟨ao, cap, rfl, hal⟩ := hl.form
  have HR : Hid (rowOkA n l = (decide ((l.length : Int) = n) && decide (setL l = belowS n))) := Lib.hid rfl
  generalize rowOkA n l = r at *
  generalize setL l = a at *
  generalize belowS n = b at *
  clear hl
  by_cases hn : (l.length : Int) = n
  · by_cases hab : a = b
    · have HV : Hid (true = r) := Lib.hid (by rw [HR.out, decide_eq_true hn, decide_eq_true hab]; rfl)
      subst hab
      clear HR
      go_enter Tryz.func120, Tryz.ntmps120
      go_wp2_with fail
      refine (CO.out).mono ?_
      rintro e w1 ⟨rfl, rfl⟩
      go_wp2_with fail
      refine (CB.out).mono ?_
      rintro e w1 ⟨rfl, rfl⟩
      go_wp2_with fail
      go_ret
      exact ⟨ret_b HV.out, rfl⟩
    · have HV : Hid (((a : Int) == (b : Int)) = r) := Lib.hid (by rw [HR.out, decide_eq_true hn, decide_eq_false hab, beq_eq_false_iff_ne.2 (fun e => hab (by omega))]; rfl)
      clear HR
      go_enter Tryz.func120, Tryz.ntmps120
      go_wp2_with fail
      refine (CO.out).mono ?_
      rintro e w1 ⟨rfl, rfl⟩
      go_wp2_with fail
      refine (CB.out).mono ?_
      rintro e w1 ⟨rfl, rfl⟩
      go_wp2_with fail
      go_ret
      exact ⟨ret_b HV.out, rfl⟩
  · have HV : Hid (false = r) := Lib.hid (by rw [HR.out, decide_eq_false hn]; rfl)
    clear HR
    go_enter Tryz.func120, Tryz.ntmps120
    go_wp2_with fail
    go_ret
    exact ⟨ret_b HV.out, rfl⟩
end Go.Proofs.YtecpeegbfeijaaaGreatDoor
