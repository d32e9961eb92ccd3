/- Walks and plain facts that the proof of the statement LeastSees uses, joined: LeaE LeaB LevA LevB RelU OrdAA LeaH RelX RelY LeaF. Conditions: each theorem's own. -/
import Derived.Test.YtkaldidcekcpnaaGreatDoorProg
import Derived.Deep.LoopGhost
import Derived.ChangeKeysEq
import Derived.Laws.Bits128
import Derived.WalkKit
import Derived.WalkSpells
import Derived.WalkLawsBesides
import Derived.Lib.Hide
import Derived.Deep.AppendLies
import Derived.Deep.RegionLaw
import Derived.Test.YtkaldidcekcpnaaGreatDoorPLeastSees0
import Derived.Test.YtkaldidcekcpnaaGreatDoorPLeastSees2
import Derived.Test.YtkaldidcekcpnaaGreatDoorPLeastSees3
import Derived.Test.YtkaldidcekcpnaaGreatDoorPLeastSees4
namespace Go.Proofs.YtkaldidcekcpnaaGreatDoor
set_option maxRecDepth 100000
open Go.RowKit

/-- What a round has come to: the start, and only what must be seen. -/
structure Grown (V A : Mat) (tr pf : Bool) (U : Mat) : Prop where
  h : ∀ i j, V i j = true → U i j = true
  m : ∀ i j, i < 64 → j < 64 → U i j = true → Must V A tr pf i j
theorem Grown.start (V A : Mat) (tr pf : Bool) : Grown V A tr pf V := ⟨fun _ _ h => h, fun _ _ _ _ h => .base h⟩
section
variable {V A U : Mat} {tr pf : Bool}
theorem Grown.next (g : Grown V A tr pf U) : Grown V A tr pf (moreM U A tr pf) := ⟨fun i j h => moreM_grows (g.h i j h), fun i j hi hj h => moreM_sound g.m i j hi hj h⟩
theorem Grown.count (_ : Grown V A tr pf U) (hf : rowsA (moreM U A tr pf) ≠ rowsA U) : cntP U < cntP (moreM U A tr pf) := cntP_lt (fun _ _ h => moreM_grows h) (fun e => hf e.symm)
theorem Grown.done (g : Grown V A tr pf U) (hf : rowsA (moreM U A tr pf) = rowsA U) : ∀ i j, i < 64 → j < 64 → (U i j = true ↔ Must V A tr pf i j) := fun i j hi hj => ⟨g.m i j hi hj, fun h => more_done (fun i j _ _ h => g.h i j h) hf h hi hj⟩
end
theorem eq_items (R S : Mat) (w : World) : ∀ (is : List Nat), (∀ i ∈ is, i < 64) → (Op.eqItems 9999 35 1 (rowsA R) (rowsA S) is).run Tryz.prog w = .ok (is.all fun i => mkS (R i) == mkS (S i)) w
  | [], _ => by simp [Op.eqItems]
  | i :: is, h => by
    have hi := h i List.mem_cons_self
    have h1 := rowsA_at R hi
    have h2 := rowsA_at S hi
    have ih := eq_items R S w is (fun j hj => h j (List.mem_cons_of_mem _ hj))
    have hp : (part 35 (rowsA R) (i * 1)).run Tryz.prog w = .ok (.int .u64 ((mkS (R i) : Nat) : Int)) w := by
      simp [part, isAgg, Sem.run_bind, run_underlying Tryz.underlying35 w, h1]
    have hp2 : (part 35 (rowsA S) (i * 1)).run Tryz.prog w = .ok (.int .u64 ((mkS (S i) : Nat) : Int)) w := by
      simp [part, isAgg, Sem.run_bind, run_underlying Tryz.underlying35 w, h2]
    have he : (Op.equalIn (9998 + 1) 35 (.int .u64 ((mkS (R i) : Nat) : Int)) (.int .u64 ((mkS (S i) : Nat) : Int))).run Tryz.prog w = .ok (mkS (R i) == mkS (S i)) w := by
      rw [run_equalIn_int w 9998 35 .u64 .u64 _ _ Tryz.underlying35]
      simp
      rw [Bool.eq_iff_iff, beq_iff_eq, beq_iff_eq]
      omega
    simp only [Op.eqItems, Sem.run_bind, hp, hp2, Result.andThen_ok]
    rw [he]
    simp only [Result.andThen_ok]
    cases hb : (mkS (R i) == mkS (S i)) with
    | true =>
      simp only [Bool.not_true, Bool.false_eq_true, if_false]
      rw [ih]; simp [hb]
    | false => simp [hb]
theorem rows_all (R S : Mat) : ((List.range 64).all fun i => mkS (R i) == mkS (S i)) = true ↔ rowsA R = rowsA S := by
  rw [List.all_eq_true]
  constructor
  · intro h
    unfold rowsA
    congr 1
    refine List.map_congr_left fun i hi => ?_
    have := h i hi
    simp only [beq_iff_eq] at this
    rw [this]
  · intro h i hi
    have hi := List.mem_range.1 hi
    have h1 := rowsA_at R hi
    rw [h, rowsA_at S hi] at h1
    have := Option.some.inj h1
    simp only [Value.int.injEq, true_and] at this
    simp; omega
theorem run_eql_yes (R S : Mat) (hf : rowsA R = rowsA S) (w : World) : (binOp .eql 37 (.agg (rowsA R)) (.agg (rowsA S))).run Tryz.prog w = .ok (.bool true) w := by
  obtain ⟨i, hi, _⟩ := Option.map_eq_some_iff.1 infoSet
  have hc : Tryz.prog.cellsOf 35 = 1 := by kernel_rfl
  rw [run_eql_struct, run_equalIn_array w 9999 (rowsA R) (rowsA S) Tryz.underlying37 hi, hc, eq_items R S w _ (fun i hi => List.mem_range.1 hi), (rows_all R S).2 hf]
  rfl
theorem run_eql_no (R S : Mat) (hf : ¬ rowsA R = rowsA S) (w : World) : (binOp .eql 37 (.agg (rowsA R)) (.agg (rowsA S))).run Tryz.prog w = .ok (.bool false) w := by
  obtain ⟨i, hi, _⟩ := Option.map_eq_some_iff.1 infoSet
  have hc : Tryz.prog.cellsOf 35 = 1 := by kernel_rfl
  have hn : ((List.range 64).all fun i => mkS (R i) == mkS (S i)) = false := by
    cases h : ((List.range 64).all fun i => mkS (R i) == mkS (S i)) with
    | false => rfl
    | true => exact absurd ((rows_all R S).1 h) hf
  rw [run_eql_struct, run_equalIn_array w 9999 (rowsA R) (rowsA S) Tryz.underlying37 hi, hc, eq_items R S w _ (fun i hi => List.mem_range.1 hi), hn]
  rfl
theorem run_guard_rel (o : BinOp) (x y : Operand) (R S : Mat) (w : World) : Sem.run Tryz.prog (eqGuard o 37 x y (.agg (rowsA R)) (.agg (rowsA S))) w = .ok () w :=
  run_eqGuard_agg w o 37 x y _ _ (by kernel_rfl)
/-- What there is at the start, by the two bits of what is asked. -/
def startQ (h : List TxnV) (x : Int) (A : Mat) (q8 q16 : Int) : Mat := if q16 = 0 then (if q8 = 0 then baseM h x else orR (baseM h x) (rivM h A)) else orR (if q8 = 0 then baseM h x else orR (baseM h x) (rivM h A)) A
def startM (h : List TxnV) (x : Int) (A : Mat) : Mat := startQ h x A (bits .and .i64 x 8) (bits .and .i64 x 16)
set_option maxRecDepth 100000 in
set_option maxHeartbeats 16000000 in
theorem lof_any (x : Int) (va : Value) (l : List Int) (h : List TxnV) (B b : Nat) (w : World) (hO : OrdIs w B b h) (hc : checkI h = 0) (ht : Tab w) (hl : Ints w va l) :
    Calls Tryz.prog 18 #[.pointer (some ⟨B, 0, none⟩), .int .i64 x, va] w fun e w' => (∃ R, e = .returned (.agg (rowsA R)) ∧ ∀ i j, i < 64 → j < 64 → (R i j = true ↔ Must (startM h x (chainR l)) (chainR l) (trB x) (pfB x) i j)) ∧ Below w.heap.size w w' := by
  have hg := ht.pos
  have HT : Hid (∀ wx, Below w.heap.size w wx → Tab wx) := Lib.hid (fun wx hb => ht.below hb hg)
  have HO := Lib.hid (fun wx (hx : Below w.heap.size w wx) => hO.below hx)
  have HC := Lib.hid hc
  obtain ⟨q8, h8⟩ : ∃ q, bits .and .i64 x 8 = q := ⟨_, rfl⟩
  obtain ⟨q16, h16⟩ : ∃ q, bits .and .i64 x 16 = q := ⟨_, rfl⟩
  have hb0 := box_below w (.cells #[.int .u64 0, .int .u64 0, .int .u64 0, .int .u64 0, .int .u64 0, .int .u64 0, .int .u64 0, .int .u64 0, .int .u64 0, .int .u64 0, .int .u64 0, .int .u64 0, .int .u64 0, .int .u64 0, .int .u64 0, .int .u64 0, .int .u64 0, .int .u64 0, .int .u64 0, .int .u64 0, .int .u64 0, .int .u64 0, .int .u64 0, .int .u64 0, .int .u64 0, .int .u64 0, .int .u64 0, .int .u64 0, .int .u64 0, .int .u64 0, .int .u64 0, .int .u64 0, .int .u64 0, .int .u64 0, .int .u64 0, .int .u64 0, .int .u64 0, .int .u64 0, .int .u64 0, .int .u64 0, .int .u64 0, .int .u64 0, .int .u64 0, .int .u64 0, .int .u64 0, .int .u64 0, .int .u64 0, .int .u64 0, .int .u64 0, .int .u64 0, .int .u64 0, .int .u64 0, .int .u64 0, .int .u64 0, .int .u64 0, .int .u64 0, .int .u64 0, .int .u64 0, .int .u64 0, .int .u64 0, .int .u64 0, .int .u64 0, .int .u64 0, .int .u64 0] 37)
  have CH := Lib.hid (chain_any va l (w.alloc (.cells #[.int .u64 0, .int .u64 0, .int .u64 0, .int .u64 0, .int .u64 0, .int .u64 0, .int .u64 0, .int .u64 0, .int .u64 0, .int .u64 0, .int .u64 0, .int .u64 0, .int .u64 0, .int .u64 0, .int .u64 0, .int .u64 0, .int .u64 0, .int .u64 0, .int .u64 0, .int .u64 0, .int .u64 0, .int .u64 0, .int .u64 0, .int .u64 0, .int .u64 0, .int .u64 0, .int .u64 0, .int .u64 0, .int .u64 0, .int .u64 0, .int .u64 0, .int .u64 0, .int .u64 0, .int .u64 0, .int .u64 0, .int .u64 0, .int .u64 0, .int .u64 0, .int .u64 0, .int .u64 0, .int .u64 0, .int .u64 0, .int .u64 0, .int .u64 0, .int .u64 0, .int .u64 0, .int .u64 0, .int .u64 0, .int .u64 0, .int .u64 0, .int .u64 0, .int .u64 0, .int .u64 0, .int .u64 0, .int .u64 0, .int .u64 0, .int .u64 0, .int .u64 0, .int .u64 0, .int .u64 0, .int .u64 0, .int .u64 0, .int .u64 0, .int .u64 0] 37)) (hl.below hb0))
  obtain ⟨ao, cap, rfl, hal⟩ := hl.form
  have HQ : Hid (startM h x (chainR l) = startQ h x (chainR l) q8 q16) := Lib.hid (by unfold startM; rw [h8, h16])
  generalize chainR l = A at *
  have z6 := zero_block w
  clear hO hc ht hl
  go_enter Tryz.func18, Tryz.ntmps18
  go_wp2_with fail
  refine (CH.out).mono ?_
  rintro e w1 ⟨rfl, hb1⟩
  have z6 := z6.below hb1 (by simp)
  have hb2 := below_then hb0 hb1
  clear hb1 hb0 CH
  have hs1 := hb2.size
  have z7 := zero_block w1
  have hl6 := z6.lt
  have z6 := (z6.alloc (.cells #[.int .u64 0, .int .u64 0, .int .u64 0, .int .u64 0, .int .u64 0, .int .u64 0, .int .u64 0, .int .u64 0, .int .u64 0, .int .u64 0, .int .u64 0, .int .u64 0, .int .u64 0, .int .u64 0, .int .u64 0, .int .u64 0, .int .u64 0, .int .u64 0, .int .u64 0, .int .u64 0, .int .u64 0, .int .u64 0, .int .u64 0, .int .u64 0, .int .u64 0, .int .u64 0, .int .u64 0, .int .u64 0, .int .u64 0, .int .u64 0, .int .u64 0, .int .u64 0, .int .u64 0, .int .u64 0, .int .u64 0, .int .u64 0, .int .u64 0, .int .u64 0, .int .u64 0, .int .u64 0, .int .u64 0, .int .u64 0, .int .u64 0, .int .u64 0, .int .u64 0, .int .u64 0, .int .u64 0, .int .u64 0, .int .u64 0, .int .u64 0, .int .u64 0, .int .u64 0, .int .u64 0, .int .u64 0, .int .u64 0, .int .u64 0, .int .u64 0, .int .u64 0, .int .u64 0, .int .u64 0, .int .u64 0, .int .u64 0, .int .u64 0, .int .u64 0] 37)).far (g' := w1.heap.size) (by omega) (rowsA A)
  have hb3 := below_setRow (hb2.alloc hb2.size (.cells #[.int .u64 0, .int .u64 0, .int .u64 0, .int .u64 0, .int .u64 0, .int .u64 0, .int .u64 0, .int .u64 0, .int .u64 0, .int .u64 0, .int .u64 0, .int .u64 0, .int .u64 0, .int .u64 0, .int .u64 0, .int .u64 0, .int .u64 0, .int .u64 0, .int .u64 0, .int .u64 0, .int .u64 0, .int .u64 0, .int .u64 0, .int .u64 0, .int .u64 0, .int .u64 0, .int .u64 0, .int .u64 0, .int .u64 0, .int .u64 0, .int .u64 0, .int .u64 0, .int .u64 0, .int .u64 0, .int .u64 0, .int .u64 0, .int .u64 0, .int .u64 0, .int .u64 0, .int .u64 0, .int .u64 0, .int .u64 0, .int .u64 0, .int .u64 0, .int .u64 0, .int .u64 0, .int .u64 0, .int .u64 0, .int .u64 0, .int .u64 0, .int .u64 0, .int .u64 0, .int .u64 0, .int .u64 0, .int .u64 0, .int .u64 0, .int .u64 0, .int .u64 0, .int .u64 0, .int .u64 0, .int .u64 0, .int .u64 0, .int .u64 0, .int .u64 0] 37)) (g := w1.heap.size) (by omega) (rowsA A)
  clear hb2
  go_upto_region 2 with (with_reducible refine wpList_store_rel z7 A rfl _ _ rfl rfl rfl ?_)
  have z7 := z7.setRow A
  generalize World.setRow _ _ _ = w2 at *
  generalize w1.heap.size = p7 at *
  have CB := Lib.hid (lbase_any x h B w2 (HO.out _ hb3).blk)
  obtain ⟨M0, hM0⟩ : ∃ M0, M0 = baseM h x := ⟨_, rfl⟩
  rw [← hM0] at CB
  have HQ : Hid (startM h x A = if q16 = 0 then (if q8 = 0 then M0 else orR M0 (rivM h A)) else orR (if q8 = 0 then M0 else orR M0 (rivM h A)) A) := Lib.hid (by rw [HQ.out, hM0]; rfl)
  clear hM0
  go_wp2_with fail
  refine (CB.out).mono ?_
  rintro e w3 ⟨rfl, hb4⟩
  have z6 := z6.below hb4 z6.lt
  have z7 := z7.below hb4 z7.lt
  have hb5 := hb3.trans (hb4.mono hb3.size)
  clear hb3 hb4 CB
  have hs3 := hb5.size
  have hl7 := z7.lt
  have hl6 := z6.lt
  have z8 := zero_block w3
  have z7 := (z7.alloc (.cells #[.int .u64 0, .int .u64 0, .int .u64 0, .int .u64 0, .int .u64 0, .int .u64 0, .int .u64 0, .int .u64 0, .int .u64 0, .int .u64 0, .int .u64 0, .int .u64 0, .int .u64 0, .int .u64 0, .int .u64 0, .int .u64 0, .int .u64 0, .int .u64 0, .int .u64 0, .int .u64 0, .int .u64 0, .int .u64 0, .int .u64 0, .int .u64 0, .int .u64 0, .int .u64 0, .int .u64 0, .int .u64 0, .int .u64 0, .int .u64 0, .int .u64 0, .int .u64 0, .int .u64 0, .int .u64 0, .int .u64 0, .int .u64 0, .int .u64 0, .int .u64 0, .int .u64 0, .int .u64 0, .int .u64 0, .int .u64 0, .int .u64 0, .int .u64 0, .int .u64 0, .int .u64 0, .int .u64 0, .int .u64 0, .int .u64 0, .int .u64 0, .int .u64 0, .int .u64 0, .int .u64 0, .int .u64 0, .int .u64 0, .int .u64 0, .int .u64 0, .int .u64 0, .int .u64 0, .int .u64 0, .int .u64 0, .int .u64 0, .int .u64 0, .int .u64 0] 37)).far (g' := w3.heap.size) (by omega) (rowsA M0)
  have z6 := (z6.alloc (.cells #[.int .u64 0, .int .u64 0, .int .u64 0, .int .u64 0, .int .u64 0, .int .u64 0, .int .u64 0, .int .u64 0, .int .u64 0, .int .u64 0, .int .u64 0, .int .u64 0, .int .u64 0, .int .u64 0, .int .u64 0, .int .u64 0, .int .u64 0, .int .u64 0, .int .u64 0, .int .u64 0, .int .u64 0, .int .u64 0, .int .u64 0, .int .u64 0, .int .u64 0, .int .u64 0, .int .u64 0, .int .u64 0, .int .u64 0, .int .u64 0, .int .u64 0, .int .u64 0, .int .u64 0, .int .u64 0, .int .u64 0, .int .u64 0, .int .u64 0, .int .u64 0, .int .u64 0, .int .u64 0, .int .u64 0, .int .u64 0, .int .u64 0, .int .u64 0, .int .u64 0, .int .u64 0, .int .u64 0, .int .u64 0, .int .u64 0, .int .u64 0, .int .u64 0, .int .u64 0, .int .u64 0, .int .u64 0, .int .u64 0, .int .u64 0, .int .u64 0, .int .u64 0, .int .u64 0, .int .u64 0, .int .u64 0, .int .u64 0, .int .u64 0, .int .u64 0] 37)).far (g' := w3.heap.size) (by omega) (rowsA M0)
  have hb := below_setRow (hb5.alloc hb5.size (.cells #[.int .u64 0, .int .u64 0, .int .u64 0, .int .u64 0, .int .u64 0, .int .u64 0, .int .u64 0, .int .u64 0, .int .u64 0, .int .u64 0, .int .u64 0, .int .u64 0, .int .u64 0, .int .u64 0, .int .u64 0, .int .u64 0, .int .u64 0, .int .u64 0, .int .u64 0, .int .u64 0, .int .u64 0, .int .u64 0, .int .u64 0, .int .u64 0, .int .u64 0, .int .u64 0, .int .u64 0, .int .u64 0, .int .u64 0, .int .u64 0, .int .u64 0, .int .u64 0, .int .u64 0, .int .u64 0, .int .u64 0, .int .u64 0, .int .u64 0, .int .u64 0, .int .u64 0, .int .u64 0, .int .u64 0, .int .u64 0, .int .u64 0, .int .u64 0, .int .u64 0, .int .u64 0, .int .u64 0, .int .u64 0, .int .u64 0, .int .u64 0, .int .u64 0, .int .u64 0, .int .u64 0, .int .u64 0, .int .u64 0, .int .u64 0, .int .u64 0, .int .u64 0, .int .u64 0, .int .u64 0, .int .u64 0, .int .u64 0, .int .u64 0, .int .u64 0] 37)) (g := w3.heap.size) (by omega) (rowsA M0)
  clear hb5
  go_upto_region 3 with (with_reducible refine wpList_store_rel z8 M0 rfl _ _ rfl rfl rfl ?_)
  have z8 := z8.setRow M0
  generalize World.setRow _ _ _ = w4 at *
  generalize w3.heap.size = p8 at *
  by_cases e8 : q8 = 0
  · subst e8
    go_upto_region 5 with fail
    by_cases e16 : q16 = 0
    · have HE2 : Hid ((M0) = startM h x A) := Lib.hid (by rw [HQ.out]; rw [if_pos e16, if_pos rfl])
      subst e16
      obtain ⟨V, hV⟩ : ∃ V, V = M0 := ⟨_, rfl⟩
      have HE : Hid (V = startM h x A) := Lib.hid (by rw [hV]; exact HE2.out)
      rw [← hV] at z8
      clear hV HE2
      go_wp2_with fail
      go_loopg [] (4096 - cntP V) (fun g wx => ∃ U : Mat, 4096 ≤ g + cntP U ∧ RelAt wx p8 37 U ∧ RelAt wx p7 37 A ∧ RelAt wx w.heap.size 37 noR ∧ Grown V A (trB x) (pfB x) U ∧ Below w.heap.size w wx)
      case atStart => exact ⟨V, by have := cntP_le V; omega, z8, z7, z6, Grown.start V A _ _, hb⟩
      case round =>
        obtain ⟨U, hg, y8, y7, y6, hGr, hbr⟩ := hrel
        clear z8 z7 z6 hb
        have hTr := HT.out _ hbr
        go_wp2_with (first | (with_reducible refine wpList_load_rel y8 rfl _ rfl rfl ?_) | (with_reducible refine wpList_load_rel y7 rfl _ rfl rfl ?_))
        refine (lmore_any x U A _ hTr).mono ?_
        rintro e w5 ⟨rfl, hb5⟩
        have y8 := y8.below hb5 y8.lt
        have y7 := y7.below hb5 y7.lt
        have y6 := y6.below hb5 y6.lt
        have hb6 := hbr.trans (hb5.mono hbr.size)
        have hl8 := y8.lt
        have hGn := hGr.next
        have hGc := hGr.count
        have hGd := hGr.done
        have HG := Lib.hid (And.intro hGn (And.intro hGc hGd))
        clear hGn hGc hGd hGr hbr hb5 hTr
        generalize moreM U A (trB x) (pfB x) = N at *
        have z9 := zero_block w5
        have hs6 := hb6.size
        have y8 := (y8.alloc (.cells #[.int .u64 0, .int .u64 0, .int .u64 0, .int .u64 0, .int .u64 0, .int .u64 0, .int .u64 0, .int .u64 0, .int .u64 0, .int .u64 0, .int .u64 0, .int .u64 0, .int .u64 0, .int .u64 0, .int .u64 0, .int .u64 0, .int .u64 0, .int .u64 0, .int .u64 0, .int .u64 0, .int .u64 0, .int .u64 0, .int .u64 0, .int .u64 0, .int .u64 0, .int .u64 0, .int .u64 0, .int .u64 0, .int .u64 0, .int .u64 0, .int .u64 0, .int .u64 0, .int .u64 0, .int .u64 0, .int .u64 0, .int .u64 0, .int .u64 0, .int .u64 0, .int .u64 0, .int .u64 0, .int .u64 0, .int .u64 0, .int .u64 0, .int .u64 0, .int .u64 0, .int .u64 0, .int .u64 0, .int .u64 0, .int .u64 0, .int .u64 0, .int .u64 0, .int .u64 0, .int .u64 0, .int .u64 0, .int .u64 0, .int .u64 0, .int .u64 0, .int .u64 0, .int .u64 0, .int .u64 0, .int .u64 0, .int .u64 0, .int .u64 0, .int .u64 0] 37)).far (g' := w5.heap.size) (by omega) (rowsA N)
        have y7 := (y7.alloc (.cells #[.int .u64 0, .int .u64 0, .int .u64 0, .int .u64 0, .int .u64 0, .int .u64 0, .int .u64 0, .int .u64 0, .int .u64 0, .int .u64 0, .int .u64 0, .int .u64 0, .int .u64 0, .int .u64 0, .int .u64 0, .int .u64 0, .int .u64 0, .int .u64 0, .int .u64 0, .int .u64 0, .int .u64 0, .int .u64 0, .int .u64 0, .int .u64 0, .int .u64 0, .int .u64 0, .int .u64 0, .int .u64 0, .int .u64 0, .int .u64 0, .int .u64 0, .int .u64 0, .int .u64 0, .int .u64 0, .int .u64 0, .int .u64 0, .int .u64 0, .int .u64 0, .int .u64 0, .int .u64 0, .int .u64 0, .int .u64 0, .int .u64 0, .int .u64 0, .int .u64 0, .int .u64 0, .int .u64 0, .int .u64 0, .int .u64 0, .int .u64 0, .int .u64 0, .int .u64 0, .int .u64 0, .int .u64 0, .int .u64 0, .int .u64 0, .int .u64 0, .int .u64 0, .int .u64 0, .int .u64 0, .int .u64 0, .int .u64 0, .int .u64 0, .int .u64 0] 37)).far (g' := w5.heap.size) (by omega) (rowsA N)
        have y6 := (y6.alloc (.cells #[.int .u64 0, .int .u64 0, .int .u64 0, .int .u64 0, .int .u64 0, .int .u64 0, .int .u64 0, .int .u64 0, .int .u64 0, .int .u64 0, .int .u64 0, .int .u64 0, .int .u64 0, .int .u64 0, .int .u64 0, .int .u64 0, .int .u64 0, .int .u64 0, .int .u64 0, .int .u64 0, .int .u64 0, .int .u64 0, .int .u64 0, .int .u64 0, .int .u64 0, .int .u64 0, .int .u64 0, .int .u64 0, .int .u64 0, .int .u64 0, .int .u64 0, .int .u64 0, .int .u64 0, .int .u64 0, .int .u64 0, .int .u64 0, .int .u64 0, .int .u64 0, .int .u64 0, .int .u64 0, .int .u64 0, .int .u64 0, .int .u64 0, .int .u64 0, .int .u64 0, .int .u64 0, .int .u64 0, .int .u64 0, .int .u64 0, .int .u64 0, .int .u64 0, .int .u64 0, .int .u64 0, .int .u64 0, .int .u64 0, .int .u64 0, .int .u64 0, .int .u64 0, .int .u64 0, .int .u64 0, .int .u64 0, .int .u64 0, .int .u64 0, .int .u64 0] 37)).far (g' := w5.heap.size) (by omega) (rowsA N)
        have hb7 := below_setRow (hb6.alloc hb6.size (.cells #[.int .u64 0, .int .u64 0, .int .u64 0, .int .u64 0, .int .u64 0, .int .u64 0, .int .u64 0, .int .u64 0, .int .u64 0, .int .u64 0, .int .u64 0, .int .u64 0, .int .u64 0, .int .u64 0, .int .u64 0, .int .u64 0, .int .u64 0, .int .u64 0, .int .u64 0, .int .u64 0, .int .u64 0, .int .u64 0, .int .u64 0, .int .u64 0, .int .u64 0, .int .u64 0, .int .u64 0, .int .u64 0, .int .u64 0, .int .u64 0, .int .u64 0, .int .u64 0, .int .u64 0, .int .u64 0, .int .u64 0, .int .u64 0, .int .u64 0, .int .u64 0, .int .u64 0, .int .u64 0, .int .u64 0, .int .u64 0, .int .u64 0, .int .u64 0, .int .u64 0, .int .u64 0, .int .u64 0, .int .u64 0, .int .u64 0, .int .u64 0, .int .u64 0, .int .u64 0, .int .u64 0, .int .u64 0, .int .u64 0, .int .u64 0, .int .u64 0, .int .u64 0, .int .u64 0, .int .u64 0, .int .u64 0, .int .u64 0, .int .u64 0, .int .u64 0] 37)) (g := w5.heap.size) (by omega) (rowsA N)
        clear hb6
        go_upto_region 8 with (with_reducible refine wpList_store_rel z9 N rfl _ _ rfl rfl rfl ?_)
        have z9 := z9.setRow N
        generalize World.setRow _ _ _ = w6 at *
        have hl9 := z9.lt
        by_cases hf : rowsA N = rowsA U
        · have E0 := fun w => run_eql_yes N U hf w
          have G0 := fun (x y : Operand) (w : World) => run_guard_rel .eql x y N U w
          have HF := Lib.hid hf
          clear hf
          go_wp2_with (first | (with_reducible refine wpList_load_rel z9 rfl _ rfl rfl ?_) | (with_reducible refine wpList_load_rel y8 rfl _ rfl rfl ?_) | (with_reducible refine wpList_store_rel y6 U rfl _ _ rfl rfl rfl ?_))
          have h3 := y6.setRow U
          exact bodyPost_ret (results_rel rfl _ _ _ _ rfl h3) rfl ⟨⟨U, rfl, by rw [← HE.out]; exact (HG.out.2.2 HF.out)⟩, below_setRow hb7 (Nat.le_refl _) _⟩
        · have E0 := fun w => run_eql_no N U hf w
          have G0 := fun (x y : Operand) (w : World) => run_guard_rel .eql x y N U w
          have HF := Lib.hid hf
          have hcn := HG.out.2.1 hf
          have hcl := cntP_le N
          have hgk : 0 < gk := by omega
          have hgm : 4096 ≤ (gk - 1) + cntP N := by omega
          have y7 := y7.far (g' := p8) (by omega) (rowsA N)
          have y6 := y6.far (g' := p8) (by omega) (rowsA N)
          have hb8 := below_setRow hb7 (g := p8) (by omega) (rowsA N)
          have HG2 := Lib.hid HG.out.1
          clear hf hcn hcl HG HF
          go_wp2_with (first | (with_reducible refine wpList_load_rel z9 rfl _ rfl rfl ?_) | (with_reducible refine wpList_load_rel y8 rfl _ rfl rfl ?_) | (with_reducible refine wpList_store_rel y8 N rfl _ _ rfl rfl rfl ?_))
          have y8 := y8.setRow N
          go_roundg (gk - 1)
          case measure => omega
          case rel => exact ⟨N, hgm, y8, y7, y6, HG2.out, hb8⟩
    · have HE2 : Hid ((orR (M0) A) = startM h x A) := Lib.hid (by rw [HQ.out]; rw [if_neg e16, if_pos rfl])
      go_wp2_with (first | (with_reducible refine wpList_load_rel z8 rfl _ rfl rfl ?_) | (with_reducible refine wpList_load_rel z7 rfl _ rfl rfl ?_))
      refine (union_any (M0) A _).mono ?_
      rintro e wu ⟨rfl, hbu⟩
      have z8 := z8.below hbu z8.lt
      have z7 := (z7.below hbu z7.lt).far (g' := p8) (by omega) (rowsA (orR (M0) A))
      have z6 := (z6.below hbu z6.lt).far (g' := p8) (by omega) (rowsA (orR (M0) A))
      have hb := below_setRow (hb.trans (hbu.mono hb.size)) (g := p8) (by omega) (rowsA (orR (M0) A))
      clear hbu
      go_wp2_with (with_reducible refine wpList_store_rel z8 (orR (M0) A) rfl _ _ rfl rfl rfl ?_)
      have z8 := z8.setRow (orR (M0) A)
      generalize World.setRow _ _ _ = wv at *
      obtain ⟨V, hV⟩ : ∃ V, V = orR (M0) A := ⟨_, rfl⟩
      have HE : Hid (V = startM h x A) := Lib.hid (by rw [hV]; exact HE2.out)
      rw [← hV] at z8
      clear hV HE2
      simp only [Act.put]
      go_loopg [] (4096 - cntP V) (fun g wx => ∃ U : Mat, 4096 ≤ g + cntP U ∧ RelAt wx p8 37 U ∧ RelAt wx p7 37 A ∧ RelAt wx w.heap.size 37 noR ∧ Grown V A (trB x) (pfB x) U ∧ Below w.heap.size w wx)
      case atStart => exact ⟨V, by have := cntP_le V; omega, z8, z7, z6, Grown.start V A _ _, hb⟩
      case round =>
        obtain ⟨U, hg, y8, y7, y6, hGr, hbr⟩ := hrel
        clear z8 z7 z6 hb
        have hTr := HT.out _ hbr
        go_wp2_with (first | (with_reducible refine wpList_load_rel y8 rfl _ rfl rfl ?_) | (with_reducible refine wpList_load_rel y7 rfl _ rfl rfl ?_))
        refine (lmore_any x U A _ hTr).mono ?_
        rintro e w5 ⟨rfl, hb5⟩
        have y8 := y8.below hb5 y8.lt
        have y7 := y7.below hb5 y7.lt
        have y6 := y6.below hb5 y6.lt
        have hb6 := hbr.trans (hb5.mono hbr.size)
        have hl8 := y8.lt
        have hGn := hGr.next
        have hGc := hGr.count
        have hGd := hGr.done
        have HG := Lib.hid (And.intro hGn (And.intro hGc hGd))
        clear hGn hGc hGd hGr hbr hb5 hTr
        generalize moreM U A (trB x) (pfB x) = N at *
        have z9 := zero_block w5
        have hs6 := hb6.size
        have y8 := (y8.alloc (.cells #[.int .u64 0, .int .u64 0, .int .u64 0, .int .u64 0, .int .u64 0, .int .u64 0, .int .u64 0, .int .u64 0, .int .u64 0, .int .u64 0, .int .u64 0, .int .u64 0, .int .u64 0, .int .u64 0, .int .u64 0, .int .u64 0, .int .u64 0, .int .u64 0, .int .u64 0, .int .u64 0, .int .u64 0, .int .u64 0, .int .u64 0, .int .u64 0, .int .u64 0, .int .u64 0, .int .u64 0, .int .u64 0, .int .u64 0, .int .u64 0, .int .u64 0, .int .u64 0, .int .u64 0, .int .u64 0, .int .u64 0, .int .u64 0, .int .u64 0, .int .u64 0, .int .u64 0, .int .u64 0, .int .u64 0, .int .u64 0, .int .u64 0, .int .u64 0, .int .u64 0, .int .u64 0, .int .u64 0, .int .u64 0, .int .u64 0, .int .u64 0, .int .u64 0, .int .u64 0, .int .u64 0, .int .u64 0, .int .u64 0, .int .u64 0, .int .u64 0, .int .u64 0, .int .u64 0, .int .u64 0, .int .u64 0, .int .u64 0, .int .u64 0, .int .u64 0] 37)).far (g' := w5.heap.size) (by omega) (rowsA N)
        have y7 := (y7.alloc (.cells #[.int .u64 0, .int .u64 0, .int .u64 0, .int .u64 0, .int .u64 0, .int .u64 0, .int .u64 0, .int .u64 0, .int .u64 0, .int .u64 0, .int .u64 0, .int .u64 0, .int .u64 0, .int .u64 0, .int .u64 0, .int .u64 0, .int .u64 0, .int .u64 0, .int .u64 0, .int .u64 0, .int .u64 0, .int .u64 0, .int .u64 0, .int .u64 0, .int .u64 0, .int .u64 0, .int .u64 0, .int .u64 0, .int .u64 0, .int .u64 0, .int .u64 0, .int .u64 0, .int .u64 0, .int .u64 0, .int .u64 0, .int .u64 0, .int .u64 0, .int .u64 0, .int .u64 0, .int .u64 0, .int .u64 0, .int .u64 0, .int .u64 0, .int .u64 0, .int .u64 0, .int .u64 0, .int .u64 0, .int .u64 0, .int .u64 0, .int .u64 0, .int .u64 0, .int .u64 0, .int .u64 0, .int .u64 0, .int .u64 0, .int .u64 0, .int .u64 0, .int .u64 0, .int .u64 0, .int .u64 0, .int .u64 0, .int .u64 0, .int .u64 0, .int .u64 0] 37)).far (g' := w5.heap.size) (by omega) (rowsA N)
        have y6 := (y6.alloc (.cells #[.int .u64 0, .int .u64 0, .int .u64 0, .int .u64 0, .int .u64 0, .int .u64 0, .int .u64 0, .int .u64 0, .int .u64 0, .int .u64 0, .int .u64 0, .int .u64 0, .int .u64 0, .int .u64 0, .int .u64 0, .int .u64 0, .int .u64 0, .int .u64 0, .int .u64 0, .int .u64 0, .int .u64 0, .int .u64 0, .int .u64 0, .int .u64 0, .int .u64 0, .int .u64 0, .int .u64 0, .int .u64 0, .int .u64 0, .int .u64 0, .int .u64 0, .int .u64 0, .int .u64 0, .int .u64 0, .int .u64 0, .int .u64 0, .int .u64 0, .int .u64 0, .int .u64 0, .int .u64 0, .int .u64 0, .int .u64 0, .int .u64 0, .int .u64 0, .int .u64 0, .int .u64 0, .int .u64 0, .int .u64 0, .int .u64 0, .int .u64 0, .int .u64 0, .int .u64 0, .int .u64 0, .int .u64 0, .int .u64 0, .int .u64 0, .int .u64 0, .int .u64 0, .int .u64 0, .int .u64 0, .int .u64 0, .int .u64 0, .int .u64 0, .int .u64 0] 37)).far (g' := w5.heap.size) (by omega) (rowsA N)
        have hb7 := below_setRow (hb6.alloc hb6.size (.cells #[.int .u64 0, .int .u64 0, .int .u64 0, .int .u64 0, .int .u64 0, .int .u64 0, .int .u64 0, .int .u64 0, .int .u64 0, .int .u64 0, .int .u64 0, .int .u64 0, .int .u64 0, .int .u64 0, .int .u64 0, .int .u64 0, .int .u64 0, .int .u64 0, .int .u64 0, .int .u64 0, .int .u64 0, .int .u64 0, .int .u64 0, .int .u64 0, .int .u64 0, .int .u64 0, .int .u64 0, .int .u64 0, .int .u64 0, .int .u64 0, .int .u64 0, .int .u64 0, .int .u64 0, .int .u64 0, .int .u64 0, .int .u64 0, .int .u64 0, .int .u64 0, .int .u64 0, .int .u64 0, .int .u64 0, .int .u64 0, .int .u64 0, .int .u64 0, .int .u64 0, .int .u64 0, .int .u64 0, .int .u64 0, .int .u64 0, .int .u64 0, .int .u64 0, .int .u64 0, .int .u64 0, .int .u64 0, .int .u64 0, .int .u64 0, .int .u64 0, .int .u64 0, .int .u64 0, .int .u64 0, .int .u64 0, .int .u64 0, .int .u64 0, .int .u64 0] 37)) (g := w5.heap.size) (by omega) (rowsA N)
        clear hb6
        go_upto_region 8 with (with_reducible refine wpList_store_rel z9 N rfl _ _ rfl rfl rfl ?_)
        have z9 := z9.setRow N
        generalize World.setRow _ _ _ = w6 at *
        have hl9 := z9.lt
        by_cases hf : rowsA N = rowsA U
        · have E0 := fun w => run_eql_yes N U hf w
          have G0 := fun (x y : Operand) (w : World) => run_guard_rel .eql x y N U w
          have HF := Lib.hid hf
          clear hf
          go_wp2_with (first | (with_reducible refine wpList_load_rel z9 rfl _ rfl rfl ?_) | (with_reducible refine wpList_load_rel y8 rfl _ rfl rfl ?_) | (with_reducible refine wpList_store_rel y6 U rfl _ _ rfl rfl rfl ?_))
          have h3 := y6.setRow U
          exact bodyPost_ret (results_rel rfl _ _ _ _ rfl h3) rfl ⟨⟨U, rfl, by rw [← HE.out]; exact (HG.out.2.2 HF.out)⟩, below_setRow hb7 (Nat.le_refl _) _⟩
        · have E0 := fun w => run_eql_no N U hf w
          have G0 := fun (x y : Operand) (w : World) => run_guard_rel .eql x y N U w
          have HF := Lib.hid hf
          have hcn := HG.out.2.1 hf
          have hcl := cntP_le N
          have hgk : 0 < gk := by omega
          have hgm : 4096 ≤ (gk - 1) + cntP N := by omega
          have y7 := y7.far (g' := p8) (by omega) (rowsA N)
          have y6 := y6.far (g' := p8) (by omega) (rowsA N)
          have hb8 := below_setRow hb7 (g := p8) (by omega) (rowsA N)
          have HG2 := Lib.hid HG.out.1
          clear hf hcn hcl HG HF
          go_wp2_with (first | (with_reducible refine wpList_load_rel z9 rfl _ rfl rfl ?_) | (with_reducible refine wpList_load_rel y8 rfl _ rfl rfl ?_) | (with_reducible refine wpList_store_rel y8 N rfl _ _ rfl rfl rfl ?_))
          have y8 := y8.setRow N
          go_roundg (gk - 1)
          case measure => omega
          case rel => exact ⟨N, hgm, y8, y7, y6, HG2.out, hb8⟩
  · go_upto_region 4 with fail
    have kd := (Below.refl w4.heap.size w4).drew
    have HV : Hid (∀ wx, Below w4.heap.size w4 wx → RelAt wx p8 37 (M0)) := Lib.hid (fun wx hx => z8.below hx z8.lt)
    have HA : Hid (∀ wx, Below w4.heap.size w4 wx → RelAt wx p7 37 A) := Lib.hid (fun wx hx => z7.below hx z7.lt)
    have HZ : Hid (∀ wx, Below w4.heap.size w4 wx → RelAt wx w.heap.size 37 noR) := Lib.hid (fun wx hx => z6.below hx z6.lt)
    have HB := Lib.hid (fun wx (hx : Below w4.heap.size w4 wx) => hb.trans (hx.mono hb.size))
    have CR := Lib.hid (fun wx (hx : Below w4.heap.size w4 wx) => lrivals_any A h B b wx (HO.out wx (hb.trans (hx.mono hb.size))) HC.out)
    clear z6 z7 z8 hb
    refine wp_region_held_drew (S := fun wx => RelAt wx p7 37 A) (by kernel_rfl) (HA.out _ kd) (fun hS0 => ?_)
    refine takeG (some 19) (i := 1) (v := ?v1) rfl rfl (by kernel_rfl) (by kernel_rfl) (by kernel_rfl) (fun _ _ _ h => h) (Or.inl ⟨by rfl, ?h1⟩) hS0 ?r1
    case h1 => (intro w hw; go_simp; try (with_reducible rfl))
    try simp only [Act.put, List.setIfInBounds_toArray, List.set_cons_zero, List.set_cons_succ]
    refine takeG (some 20) (i := 2) (v := _) rfl rfl (by kernel_rfl) (by kernel_rfl) (by kernel_rfl) (fun _ _ _ h => h) (yields_rel (by rfl) _ rfl rfl (fun wx hx => hx)) hS0 ?_
    try simp only [Act.put, List.setIfInBounds_toArray, List.set_cons_zero, List.set_cons_succ]
    refine wpAnyH_ready (rs := [0, 3]) (by kernel_rfl) (by simp) ?_
    refine AllReadyH.cons rfl (fun K hK => ?_) (AllReadyH.cons rfl (fun K hK => ?_) AllReadyH.nil)
    ·
      rw [if_pos (by rfl)]
      refine wp_load_rel (HV.out _ kd) _ rfl rfl ?_
      refine hK.out _ _ hS0 (fun _ => ?_)
      clear hK K
      refine wpAnyH_ready (rs := [3]) (by kernel_rfl) (by simp) ?_
      refine AllReadyH.cons rfl (fun K hK => ?_) AllReadyH.nil
      go_simp
      refine (CR.out _ kd).mono ?_
      rintro e q1 ⟨rfl, hq1⟩
      show K _ _
      have k1 := below_then kd hq1
      have s1 := HA.out _ k1
      refine hK.out _ _ s1 (fun _ => ?_)
      clear hK K
      refine wpAnyH_ready (rs := [4]) (by kernel_rfl) (by simp) ?_
      refine AllReadyH.cons rfl (fun K hK => ?_) AllReadyH.nil
      go_simp
      refine (union_any (M0) (rivM h A) _).mono ?_
      rintro e q2 ⟨rfl, hq2⟩
      show K _ _
      have k2 := below_then k1 hq2
      have s2 := HA.out _ k2
      refine hK.out _ _ s2 (fun _ => ?_)
      clear hK K
      refine wpAnyH_ready (rs := [5]) (by kernel_rfl) (by simp) ?_
      refine AllReadyH.cons rfl (fun K hK => ?_) AllReadyH.nil
      rw [if_pos (by rfl)]
      refine wp_store_rel (HV.out _ k2) (orR (M0) (rivM h A)) _ _ rfl rfl rfl ?_
      refine hK.out _ _ ((HA.out _ k2).far (by omega) _) (fun _ => ?_)
      clear hK K
      refine wpAnyH_done (by kernel_rfl) ?_ _
      have z8 := (HV.out _ k2).setRow (orR (M0) (rivM h A))
      have z7 := (HA.out _ k2).far (g' := p8) (by omega) (rowsA (orR (M0) (rivM h A)))
      have z6 := (HZ.out _ k2).far (g' := p8) (by omega) (rowsA (orR (M0) (rivM h A)))
      have hb := below_setRow (HB.out _ k2) (g := p8) (by omega) (rowsA (orR (M0) (rivM h A)))
      generalize World.setRow _ _ _ = w6 at *
      clear HV HA HZ HB CR kd
      go_upto_region 5 with fail
      by_cases e16 : q16 = 0
      · have HE2 : Hid ((orR (M0) (rivM h A)) = startM h x A) := Lib.hid (by rw [HQ.out]; rw [if_pos e16, if_neg e8])
        subst e16
        obtain ⟨V, hV⟩ : ∃ V, V = orR (M0) (rivM h A) := ⟨_, rfl⟩
        have HE : Hid (V = startM h x A) := Lib.hid (by rw [hV]; exact HE2.out)
        rw [← hV] at z8
        clear hV HE2
        go_wp2_with fail
        go_loopg [] (4096 - cntP V) (fun g wx => ∃ U : Mat, 4096 ≤ g + cntP U ∧ RelAt wx p8 37 U ∧ RelAt wx p7 37 A ∧ RelAt wx w.heap.size 37 noR ∧ Grown V A (trB x) (pfB x) U ∧ Below w.heap.size w wx)
        case atStart => exact ⟨V, by have := cntP_le V; omega, z8, z7, z6, Grown.start V A _ _, hb⟩
        case round =>
          obtain ⟨U, hg, y8, y7, y6, hGr, hbr⟩ := hrel
          clear z8 z7 z6 hb
          have hTr := HT.out _ hbr
          go_wp2_with (first | (with_reducible refine wpList_load_rel y8 rfl _ rfl rfl ?_) | (with_reducible refine wpList_load_rel y7 rfl _ rfl rfl ?_))
          refine (lmore_any x U A _ hTr).mono ?_
          rintro e w5 ⟨rfl, hb5⟩
          have y8 := y8.below hb5 y8.lt
          have y7 := y7.below hb5 y7.lt
          have y6 := y6.below hb5 y6.lt
          have hb6 := hbr.trans (hb5.mono hbr.size)
          have hl8 := y8.lt
          have hGn := hGr.next
          have hGc := hGr.count
          have hGd := hGr.done
          have HG := Lib.hid (And.intro hGn (And.intro hGc hGd))
          clear hGn hGc hGd hGr hbr hb5 hTr
          generalize moreM U A (trB x) (pfB x) = N at *
          have z9 := zero_block w5
          have hs6 := hb6.size
          have y8 := (y8.alloc (.cells #[.int .u64 0, .int .u64 0, .int .u64 0, .int .u64 0, .int .u64 0, .int .u64 0, .int .u64 0, .int .u64 0, .int .u64 0, .int .u64 0, .int .u64 0, .int .u64 0, .int .u64 0, .int .u64 0, .int .u64 0, .int .u64 0, .int .u64 0, .int .u64 0, .int .u64 0, .int .u64 0, .int .u64 0, .int .u64 0, .int .u64 0, .int .u64 0, .int .u64 0, .int .u64 0, .int .u64 0, .int .u64 0, .int .u64 0, .int .u64 0, .int .u64 0, .int .u64 0, .int .u64 0, .int .u64 0, .int .u64 0, .int .u64 0, .int .u64 0, .int .u64 0, .int .u64 0, .int .u64 0, .int .u64 0, .int .u64 0, .int .u64 0, .int .u64 0, .int .u64 0, .int .u64 0, .int .u64 0, .int .u64 0, .int .u64 0, .int .u64 0, .int .u64 0, .int .u64 0, .int .u64 0, .int .u64 0, .int .u64 0, .int .u64 0, .int .u64 0, .int .u64 0, .int .u64 0, .int .u64 0, .int .u64 0, .int .u64 0, .int .u64 0, .int .u64 0] 37)).far (g' := w5.heap.size) (by omega) (rowsA N)
          have y7 := (y7.alloc (.cells #[.int .u64 0, .int .u64 0, .int .u64 0, .int .u64 0, .int .u64 0, .int .u64 0, .int .u64 0, .int .u64 0, .int .u64 0, .int .u64 0, .int .u64 0, .int .u64 0, .int .u64 0, .int .u64 0, .int .u64 0, .int .u64 0, .int .u64 0, .int .u64 0, .int .u64 0, .int .u64 0, .int .u64 0, .int .u64 0, .int .u64 0, .int .u64 0, .int .u64 0, .int .u64 0, .int .u64 0, .int .u64 0, .int .u64 0, .int .u64 0, .int .u64 0, .int .u64 0, .int .u64 0, .int .u64 0, .int .u64 0, .int .u64 0, .int .u64 0, .int .u64 0, .int .u64 0, .int .u64 0, .int .u64 0, .int .u64 0, .int .u64 0, .int .u64 0, .int .u64 0, .int .u64 0, .int .u64 0, .int .u64 0, .int .u64 0, .int .u64 0, .int .u64 0, .int .u64 0, .int .u64 0, .int .u64 0, .int .u64 0, .int .u64 0, .int .u64 0, .int .u64 0, .int .u64 0, .int .u64 0, .int .u64 0, .int .u64 0, .int .u64 0, .int .u64 0] 37)).far (g' := w5.heap.size) (by omega) (rowsA N)
          have y6 := (y6.alloc (.cells #[.int .u64 0, .int .u64 0, .int .u64 0, .int .u64 0, .int .u64 0, .int .u64 0, .int .u64 0, .int .u64 0, .int .u64 0, .int .u64 0, .int .u64 0, .int .u64 0, .int .u64 0, .int .u64 0, .int .u64 0, .int .u64 0, .int .u64 0, .int .u64 0, .int .u64 0, .int .u64 0, .int .u64 0, .int .u64 0, .int .u64 0, .int .u64 0, .int .u64 0, .int .u64 0, .int .u64 0, .int .u64 0, .int .u64 0, .int .u64 0, .int .u64 0, .int .u64 0, .int .u64 0, .int .u64 0, .int .u64 0, .int .u64 0, .int .u64 0, .int .u64 0, .int .u64 0, .int .u64 0, .int .u64 0, .int .u64 0, .int .u64 0, .int .u64 0, .int .u64 0, .int .u64 0, .int .u64 0, .int .u64 0, .int .u64 0, .int .u64 0, .int .u64 0, .int .u64 0, .int .u64 0, .int .u64 0, .int .u64 0, .int .u64 0, .int .u64 0, .int .u64 0, .int .u64 0, .int .u64 0, .int .u64 0, .int .u64 0, .int .u64 0, .int .u64 0] 37)).far (g' := w5.heap.size) (by omega) (rowsA N)
          have hb7 := below_setRow (hb6.alloc hb6.size (.cells #[.int .u64 0, .int .u64 0, .int .u64 0, .int .u64 0, .int .u64 0, .int .u64 0, .int .u64 0, .int .u64 0, .int .u64 0, .int .u64 0, .int .u64 0, .int .u64 0, .int .u64 0, .int .u64 0, .int .u64 0, .int .u64 0, .int .u64 0, .int .u64 0, .int .u64 0, .int .u64 0, .int .u64 0, .int .u64 0, .int .u64 0, .int .u64 0, .int .u64 0, .int .u64 0, .int .u64 0, .int .u64 0, .int .u64 0, .int .u64 0, .int .u64 0, .int .u64 0, .int .u64 0, .int .u64 0, .int .u64 0, .int .u64 0, .int .u64 0, .int .u64 0, .int .u64 0, .int .u64 0, .int .u64 0, .int .u64 0, .int .u64 0, .int .u64 0, .int .u64 0, .int .u64 0, .int .u64 0, .int .u64 0, .int .u64 0, .int .u64 0, .int .u64 0, .int .u64 0, .int .u64 0, .int .u64 0, .int .u64 0, .int .u64 0, .int .u64 0, .int .u64 0, .int .u64 0, .int .u64 0, .int .u64 0, .int .u64 0, .int .u64 0, .int .u64 0] 37)) (g := w5.heap.size) (by omega) (rowsA N)
          clear hb6
          go_upto_region 8 with (with_reducible refine wpList_store_rel z9 N rfl _ _ rfl rfl rfl ?_)
          have z9 := z9.setRow N
          generalize World.setRow _ _ _ = w6 at *
          have hl9 := z9.lt
          by_cases hf : rowsA N = rowsA U
          · have E0 := fun w => run_eql_yes N U hf w
            have G0 := fun (x y : Operand) (w : World) => run_guard_rel .eql x y N U w
            have HF := Lib.hid hf
            clear hf
            go_wp2_with (first | (with_reducible refine wpList_load_rel z9 rfl _ rfl rfl ?_) | (with_reducible refine wpList_load_rel y8 rfl _ rfl rfl ?_) | (with_reducible refine wpList_store_rel y6 U rfl _ _ rfl rfl rfl ?_))
            have h3 := y6.setRow U
            exact bodyPost_ret (results_rel rfl _ _ _ _ rfl h3) rfl ⟨⟨U, rfl, by rw [← HE.out]; exact (HG.out.2.2 HF.out)⟩, below_setRow hb7 (Nat.le_refl _) _⟩
          · have E0 := fun w => run_eql_no N U hf w
            have G0 := fun (x y : Operand) (w : World) => run_guard_rel .eql x y N U w
            have HF := Lib.hid hf
            have hcn := HG.out.2.1 hf
            have hcl := cntP_le N
            have hgk : 0 < gk := by omega
            have hgm : 4096 ≤ (gk - 1) + cntP N := by omega
            have y7 := y7.far (g' := p8) (by omega) (rowsA N)
            have y6 := y6.far (g' := p8) (by omega) (rowsA N)
            have hb8 := below_setRow hb7 (g := p8) (by omega) (rowsA N)
            have HG2 := Lib.hid HG.out.1
            clear hf hcn hcl HG HF
            go_wp2_with (first | (with_reducible refine wpList_load_rel z9 rfl _ rfl rfl ?_) | (with_reducible refine wpList_load_rel y8 rfl _ rfl rfl ?_) | (with_reducible refine wpList_store_rel y8 N rfl _ _ rfl rfl rfl ?_))
            have y8 := y8.setRow N
            go_roundg (gk - 1)
            case measure => omega
            case rel => exact ⟨N, hgm, y8, y7, y6, HG2.out, hb8⟩
      · have HE2 : Hid ((orR (orR (M0) (rivM h A)) A) = startM h x A) := Lib.hid (by rw [HQ.out]; rw [if_neg e16, if_neg e8])
        go_wp2_with (first | (with_reducible refine wpList_load_rel z8 rfl _ rfl rfl ?_) | (with_reducible refine wpList_load_rel z7 rfl _ rfl rfl ?_))
        refine (union_any (orR (M0) (rivM h A)) A _).mono ?_
        rintro e wu ⟨rfl, hbu⟩
        have z8 := z8.below hbu z8.lt
        have z7 := (z7.below hbu z7.lt).far (g' := p8) (by omega) (rowsA (orR (orR (M0) (rivM h A)) A))
        have z6 := (z6.below hbu z6.lt).far (g' := p8) (by omega) (rowsA (orR (orR (M0) (rivM h A)) A))
        have hb := below_setRow (hb.trans (hbu.mono hb.size)) (g := p8) (by omega) (rowsA (orR (orR (M0) (rivM h A)) A))
        clear hbu
        go_wp2_with (with_reducible refine wpList_store_rel z8 (orR (orR (M0) (rivM h A)) A) rfl _ _ rfl rfl rfl ?_)
        have z8 := z8.setRow (orR (orR (M0) (rivM h A)) A)
        generalize World.setRow _ _ _ = wv at *
        obtain ⟨V, hV⟩ : ∃ V, V = orR (orR (M0) (rivM h A)) A := ⟨_, rfl⟩
        have HE : Hid (V = startM h x A) := Lib.hid (by rw [hV]; exact HE2.out)
        rw [← hV] at z8
        clear hV HE2
        simp only [Act.put]
        go_loopg [] (4096 - cntP V) (fun g wx => ∃ U : Mat, 4096 ≤ g + cntP U ∧ RelAt wx p8 37 U ∧ RelAt wx p7 37 A ∧ RelAt wx w.heap.size 37 noR ∧ Grown V A (trB x) (pfB x) U ∧ Below w.heap.size w wx)
        case atStart => exact ⟨V, by have := cntP_le V; omega, z8, z7, z6, Grown.start V A _ _, hb⟩
        case round =>
          obtain ⟨U, hg, y8, y7, y6, hGr, hbr⟩ := hrel
          clear z8 z7 z6 hb
          have hTr := HT.out _ hbr
          go_wp2_with (first | (with_reducible refine wpList_load_rel y8 rfl _ rfl rfl ?_) | (with_reducible refine wpList_load_rel y7 rfl _ rfl rfl ?_))
          refine (lmore_any x U A _ hTr).mono ?_
          rintro e w5 ⟨rfl, hb5⟩
          have y8 := y8.below hb5 y8.lt
          have y7 := y7.below hb5 y7.lt
          have y6 := y6.below hb5 y6.lt
          have hb6 := hbr.trans (hb5.mono hbr.size)
          have hl8 := y8.lt
          have hGn := hGr.next
          have hGc := hGr.count
          have hGd := hGr.done
          have HG := Lib.hid (And.intro hGn (And.intro hGc hGd))
          clear hGn hGc hGd hGr hbr hb5 hTr
          generalize moreM U A (trB x) (pfB x) = N at *
          have z9 := zero_block w5
          have hs6 := hb6.size
          have y8 := (y8.alloc (.cells #[.int .u64 0, .int .u64 0, .int .u64 0, .int .u64 0, .int .u64 0, .int .u64 0, .int .u64 0, .int .u64 0, .int .u64 0, .int .u64 0, .int .u64 0, .int .u64 0, .int .u64 0, .int .u64 0, .int .u64 0, .int .u64 0, .int .u64 0, .int .u64 0, .int .u64 0, .int .u64 0, .int .u64 0, .int .u64 0, .int .u64 0, .int .u64 0, .int .u64 0, .int .u64 0, .int .u64 0, .int .u64 0, .int .u64 0, .int .u64 0, .int .u64 0, .int .u64 0, .int .u64 0, .int .u64 0, .int .u64 0, .int .u64 0, .int .u64 0, .int .u64 0, .int .u64 0, .int .u64 0, .int .u64 0, .int .u64 0, .int .u64 0, .int .u64 0, .int .u64 0, .int .u64 0, .int .u64 0, .int .u64 0, .int .u64 0, .int .u64 0, .int .u64 0, .int .u64 0, .int .u64 0, .int .u64 0, .int .u64 0, .int .u64 0, .int .u64 0, .int .u64 0, .int .u64 0, .int .u64 0, .int .u64 0, .int .u64 0, .int .u64 0, .int .u64 0] 37)).far (g' := w5.heap.size) (by omega) (rowsA N)
          have y7 := (y7.alloc (.cells #[.int .u64 0, .int .u64 0, .int .u64 0, .int .u64 0, .int .u64 0, .int .u64 0, .int .u64 0, .int .u64 0, .int .u64 0, .int .u64 0, .int .u64 0, .int .u64 0, .int .u64 0, .int .u64 0, .int .u64 0, .int .u64 0, .int .u64 0, .int .u64 0, .int .u64 0, .int .u64 0, .int .u64 0, .int .u64 0, .int .u64 0, .int .u64 0, .int .u64 0, .int .u64 0, .int .u64 0, .int .u64 0, .int .u64 0, .int .u64 0, .int .u64 0, .int .u64 0, .int .u64 0, .int .u64 0, .int .u64 0, .int .u64 0, .int .u64 0, .int .u64 0, .int .u64 0, .int .u64 0, .int .u64 0, .int .u64 0, .int .u64 0, .int .u64 0, .int .u64 0, .int .u64 0, .int .u64 0, .int .u64 0, .int .u64 0, .int .u64 0, .int .u64 0, .int .u64 0, .int .u64 0, .int .u64 0, .int .u64 0, .int .u64 0, .int .u64 0, .int .u64 0, .int .u64 0, .int .u64 0, .int .u64 0, .int .u64 0, .int .u64 0, .int .u64 0] 37)).far (g' := w5.heap.size) (by omega) (rowsA N)
          have y6 := (y6.alloc (.cells #[.int .u64 0, .int .u64 0, .int .u64 0, .int .u64 0, .int .u64 0, .int .u64 0, .int .u64 0, .int .u64 0, .int .u64 0, .int .u64 0, .int .u64 0, .int .u64 0, .int .u64 0, .int .u64 0, .int .u64 0, .int .u64 0, .int .u64 0, .int .u64 0, .int .u64 0, .int .u64 0, .int .u64 0, .int .u64 0, .int .u64 0, .int .u64 0, .int .u64 0, .int .u64 0, .int .u64 0, .int .u64 0, .int .u64 0, .int .u64 0, .int .u64 0, .int .u64 0, .int .u64 0, .int .u64 0, .int .u64 0, .int .u64 0, .int .u64 0, .int .u64 0, .int .u64 0, .int .u64 0, .int .u64 0, .int .u64 0, .int .u64 0, .int .u64 0, .int .u64 0, .int .u64 0, .int .u64 0, .int .u64 0, .int .u64 0, .int .u64 0, .int .u64 0, .int .u64 0, .int .u64 0, .int .u64 0, .int .u64 0, .int .u64 0, .int .u64 0, .int .u64 0, .int .u64 0, .int .u64 0, .int .u64 0, .int .u64 0, .int .u64 0, .int .u64 0] 37)).far (g' := w5.heap.size) (by omega) (rowsA N)
          have hb7 := below_setRow (hb6.alloc hb6.size (.cells #[.int .u64 0, .int .u64 0, .int .u64 0, .int .u64 0, .int .u64 0, .int .u64 0, .int .u64 0, .int .u64 0, .int .u64 0, .int .u64 0, .int .u64 0, .int .u64 0, .int .u64 0, .int .u64 0, .int .u64 0, .int .u64 0, .int .u64 0, .int .u64 0, .int .u64 0, .int .u64 0, .int .u64 0, .int .u64 0, .int .u64 0, .int .u64 0, .int .u64 0, .int .u64 0, .int .u64 0, .int .u64 0, .int .u64 0, .int .u64 0, .int .u64 0, .int .u64 0, .int .u64 0, .int .u64 0, .int .u64 0, .int .u64 0, .int .u64 0, .int .u64 0, .int .u64 0, .int .u64 0, .int .u64 0, .int .u64 0, .int .u64 0, .int .u64 0, .int .u64 0, .int .u64 0, .int .u64 0, .int .u64 0, .int .u64 0, .int .u64 0, .int .u64 0, .int .u64 0, .int .u64 0, .int .u64 0, .int .u64 0, .int .u64 0, .int .u64 0, .int .u64 0, .int .u64 0, .int .u64 0, .int .u64 0, .int .u64 0, .int .u64 0, .int .u64 0] 37)) (g := w5.heap.size) (by omega) (rowsA N)
          clear hb6
          go_upto_region 8 with (with_reducible refine wpList_store_rel z9 N rfl _ _ rfl rfl rfl ?_)
          have z9 := z9.setRow N
          generalize World.setRow _ _ _ = w6 at *
          have hl9 := z9.lt
          by_cases hf : rowsA N = rowsA U
          · have E0 := fun w => run_eql_yes N U hf w
            have G0 := fun (x y : Operand) (w : World) => run_guard_rel .eql x y N U w
            have HF := Lib.hid hf
            clear hf
            go_wp2_with (first | (with_reducible refine wpList_load_rel z9 rfl _ rfl rfl ?_) | (with_reducible refine wpList_load_rel y8 rfl _ rfl rfl ?_) | (with_reducible refine wpList_store_rel y6 U rfl _ _ rfl rfl rfl ?_))
            have h3 := y6.setRow U
            exact bodyPost_ret (results_rel rfl _ _ _ _ rfl h3) rfl ⟨⟨U, rfl, by rw [← HE.out]; exact (HG.out.2.2 HF.out)⟩, below_setRow hb7 (Nat.le_refl _) _⟩
          · have E0 := fun w => run_eql_no N U hf w
            have G0 := fun (x y : Operand) (w : World) => run_guard_rel .eql x y N U w
            have HF := Lib.hid hf
            have hcn := HG.out.2.1 hf
            have hcl := cntP_le N
            have hgk : 0 < gk := by omega
            have hgm : 4096 ≤ (gk - 1) + cntP N := by omega
            have y7 := y7.far (g' := p8) (by omega) (rowsA N)
            have y6 := y6.far (g' := p8) (by omega) (rowsA N)
            have hb8 := below_setRow hb7 (g := p8) (by omega) (rowsA N)
            have HG2 := Lib.hid HG.out.1
            clear hf hcn hcl HG HF
            go_wp2_with (first | (with_reducible refine wpList_load_rel z9 rfl _ rfl rfl ?_) | (with_reducible refine wpList_load_rel y8 rfl _ rfl rfl ?_) | (with_reducible refine wpList_store_rel y8 N rfl _ _ rfl rfl rfl ?_))
            have y8 := y8.setRow N
            go_roundg (gk - 1)
            case measure => omega
            case rel => exact ⟨N, hgm, y8, y7, y6, HG2.out, hb8⟩
    ·
      go_simp
      refine (CR.out _ kd).mono ?_
      rintro e q3 ⟨rfl, hq3⟩
      show K _ _
      have k3 := below_then kd hq3
      have s3 := HA.out _ k3
      refine hK.out _ _ s3 (fun _ => ?_)
      clear hK K
      refine wpAnyH_ready (rs := [0]) (by kernel_rfl) (by simp) ?_
      refine AllReadyH.cons rfl (fun K hK => ?_) AllReadyH.nil
      rw [if_pos (by rfl)]
      refine wp_load_rel (HV.out _ k3) _ rfl rfl ?_
      refine hK.out _ _ s3 (fun _ => ?_)
      clear hK K
      refine wpAnyH_ready (rs := [4]) (by kernel_rfl) (by simp) ?_
      refine AllReadyH.cons rfl (fun K hK => ?_) AllReadyH.nil
      go_simp
      refine (union_any (M0) (rivM h A) _).mono ?_
      rintro e q4 ⟨rfl, hq4⟩
      show K _ _
      have k4 := below_then k3 hq4
      have s4 := HA.out _ k4
      refine hK.out _ _ s4 (fun _ => ?_)
      clear hK K
      refine wpAnyH_ready (rs := [5]) (by kernel_rfl) (by simp) ?_
      refine AllReadyH.cons rfl (fun K hK => ?_) AllReadyH.nil
      rw [if_pos (by rfl)]
      refine wp_store_rel (HV.out _ k4) (orR (M0) (rivM h A)) _ _ rfl rfl rfl ?_
      refine hK.out _ _ ((HA.out _ k4).far (by omega) _) (fun _ => ?_)
      clear hK K
      refine wpAnyH_done (by kernel_rfl) ?_ _
      have z8 := (HV.out _ k4).setRow (orR (M0) (rivM h A))
      have z7 := (HA.out _ k4).far (g' := p8) (by omega) (rowsA (orR (M0) (rivM h A)))
      have z6 := (HZ.out _ k4).far (g' := p8) (by omega) (rowsA (orR (M0) (rivM h A)))
      have hb := below_setRow (HB.out _ k4) (g := p8) (by omega) (rowsA (orR (M0) (rivM h A)))
      generalize World.setRow _ _ _ = w6 at *
      clear HV HA HZ HB CR kd
      go_upto_region 5 with fail
      by_cases e16 : q16 = 0
      · have HE2 : Hid ((orR (M0) (rivM h A)) = startM h x A) := Lib.hid (by rw [HQ.out]; rw [if_pos e16, if_neg e8])
        subst e16
        obtain ⟨V, hV⟩ : ∃ V, V = orR (M0) (rivM h A) := ⟨_, rfl⟩
        have HE : Hid (V = startM h x A) := Lib.hid (by rw [hV]; exact HE2.out)
        rw [← hV] at z8
        clear hV HE2
        go_wp2_with fail
        go_loopg [] (4096 - cntP V) (fun g wx => ∃ U : Mat, 4096 ≤ g + cntP U ∧ RelAt wx p8 37 U ∧ RelAt wx p7 37 A ∧ RelAt wx w.heap.size 37 noR ∧ Grown V A (trB x) (pfB x) U ∧ Below w.heap.size w wx)
        case atStart => exact ⟨V, by have := cntP_le V; omega, z8, z7, z6, Grown.start V A _ _, hb⟩
        case round =>
          obtain ⟨U, hg, y8, y7, y6, hGr, hbr⟩ := hrel
          clear z8 z7 z6 hb
          have hTr := HT.out _ hbr
          go_wp2_with (first | (with_reducible refine wpList_load_rel y8 rfl _ rfl rfl ?_) | (with_reducible refine wpList_load_rel y7 rfl _ rfl rfl ?_))
          refine (lmore_any x U A _ hTr).mono ?_
          rintro e w5 ⟨rfl, hb5⟩
          have y8 := y8.below hb5 y8.lt
          have y7 := y7.below hb5 y7.lt
          have y6 := y6.below hb5 y6.lt
          have hb6 := hbr.trans (hb5.mono hbr.size)
          have hl8 := y8.lt
          have hGn := hGr.next
          have hGc := hGr.count
          have hGd := hGr.done
          have HG := Lib.hid (And.intro hGn (And.intro hGc hGd))
          clear hGn hGc hGd hGr hbr hb5 hTr
          generalize moreM U A (trB x) (pfB x) = N at *
          have z9 := zero_block w5
          have hs6 := hb6.size
          have y8 := (y8.alloc (.cells #[.int .u64 0, .int .u64 0, .int .u64 0, .int .u64 0, .int .u64 0, .int .u64 0, .int .u64 0, .int .u64 0, .int .u64 0, .int .u64 0, .int .u64 0, .int .u64 0, .int .u64 0, .int .u64 0, .int .u64 0, .int .u64 0, .int .u64 0, .int .u64 0, .int .u64 0, .int .u64 0, .int .u64 0, .int .u64 0, .int .u64 0, .int .u64 0, .int .u64 0, .int .u64 0, .int .u64 0, .int .u64 0, .int .u64 0, .int .u64 0, .int .u64 0, .int .u64 0, .int .u64 0, .int .u64 0, .int .u64 0, .int .u64 0, .int .u64 0, .int .u64 0, .int .u64 0, .int .u64 0, .int .u64 0, .int .u64 0, .int .u64 0, .int .u64 0, .int .u64 0, .int .u64 0, .int .u64 0, .int .u64 0, .int .u64 0, .int .u64 0, .int .u64 0, .int .u64 0, .int .u64 0, .int .u64 0, .int .u64 0, .int .u64 0, .int .u64 0, .int .u64 0, .int .u64 0, .int .u64 0, .int .u64 0, .int .u64 0, .int .u64 0, .int .u64 0] 37)).far (g' := w5.heap.size) (by omega) (rowsA N)
          have y7 := (y7.alloc (.cells #[.int .u64 0, .int .u64 0, .int .u64 0, .int .u64 0, .int .u64 0, .int .u64 0, .int .u64 0, .int .u64 0, .int .u64 0, .int .u64 0, .int .u64 0, .int .u64 0, .int .u64 0, .int .u64 0, .int .u64 0, .int .u64 0, .int .u64 0, .int .u64 0, .int .u64 0, .int .u64 0, .int .u64 0, .int .u64 0, .int .u64 0, .int .u64 0, .int .u64 0, .int .u64 0, .int .u64 0, .int .u64 0, .int .u64 0, .int .u64 0, .int .u64 0, .int .u64 0, .int .u64 0, .int .u64 0, .int .u64 0, .int .u64 0, .int .u64 0, .int .u64 0, .int .u64 0, .int .u64 0, .int .u64 0, .int .u64 0, .int .u64 0, .int .u64 0, .int .u64 0, .int .u64 0, .int .u64 0, .int .u64 0, .int .u64 0, .int .u64 0, .int .u64 0, .int .u64 0, .int .u64 0, .int .u64 0, .int .u64 0, .int .u64 0, .int .u64 0, .int .u64 0, .int .u64 0, .int .u64 0, .int .u64 0, .int .u64 0, .int .u64 0, .int .u64 0] 37)).far (g' := w5.heap.size) (by omega) (rowsA N)
          have y6 := (y6.alloc (.cells #[.int .u64 0, .int .u64 0, .int .u64 0, .int .u64 0, .int .u64 0, .int .u64 0, .int .u64 0, .int .u64 0, .int .u64 0, .int .u64 0, .int .u64 0, .int .u64 0, .int .u64 0, .int .u64 0, .int .u64 0, .int .u64 0, .int .u64 0, .int .u64 0, .int .u64 0, .int .u64 0, .int .u64 0, .int .u64 0, .int .u64 0, .int .u64 0, .int .u64 0, .int .u64 0, .int .u64 0, .int .u64 0, .int .u64 0, .int .u64 0, .int .u64 0, .int .u64 0, .int .u64 0, .int .u64 0, .int .u64 0, .int .u64 0, .int .u64 0, .int .u64 0, .int .u64 0, .int .u64 0, .int .u64 0, .int .u64 0, .int .u64 0, .int .u64 0, .int .u64 0, .int .u64 0, .int .u64 0, .int .u64 0, .int .u64 0, .int .u64 0, .int .u64 0, .int .u64 0, .int .u64 0, .int .u64 0, .int .u64 0, .int .u64 0, .int .u64 0, .int .u64 0, .int .u64 0, .int .u64 0, .int .u64 0, .int .u64 0, .int .u64 0, .int .u64 0] 37)).far (g' := w5.heap.size) (by omega) (rowsA N)
          have hb7 := below_setRow (hb6.alloc hb6.size (.cells #[.int .u64 0, .int .u64 0, .int .u64 0, .int .u64 0, .int .u64 0, .int .u64 0, .int .u64 0, .int .u64 0, .int .u64 0, .int .u64 0, .int .u64 0, .int .u64 0, .int .u64 0, .int .u64 0, .int .u64 0, .int .u64 0, .int .u64 0, .int .u64 0, .int .u64 0, .int .u64 0, .int .u64 0, .int .u64 0, .int .u64 0, .int .u64 0, .int .u64 0, .int .u64 0, .int .u64 0, .int .u64 0, .int .u64 0, .int .u64 0, .int .u64 0, .int .u64 0, .int .u64 0, .int .u64 0, .int .u64 0, .int .u64 0, .int .u64 0, .int .u64 0, .int .u64 0, .int .u64 0, .int .u64 0, .int .u64 0, .int .u64 0, .int .u64 0, .int .u64 0, .int .u64 0, .int .u64 0, .int .u64 0, .int .u64 0, .int .u64 0, .int .u64 0, .int .u64 0, .int .u64 0, .int .u64 0, .int .u64 0, .int .u64 0, .int .u64 0, .int .u64 0, .int .u64 0, .int .u64 0, .int .u64 0, .int .u64 0, .int .u64 0, .int .u64 0] 37)) (g := w5.heap.size) (by omega) (rowsA N)
          clear hb6
          go_upto_region 8 with (with_reducible refine wpList_store_rel z9 N rfl _ _ rfl rfl rfl ?_)
          have z9 := z9.setRow N
          generalize World.setRow _ _ _ = w6 at *
          have hl9 := z9.lt
          by_cases hf : rowsA N = rowsA U
          · have E0 := fun w => run_eql_yes N U hf w
            have G0 := fun (x y : Operand) (w : World) => run_guard_rel .eql x y N U w
            have HF := Lib.hid hf
            clear hf
            go_wp2_with (first | (with_reducible refine wpList_load_rel z9 rfl _ rfl rfl ?_) | (with_reducible refine wpList_load_rel y8 rfl _ rfl rfl ?_) | (with_reducible refine wpList_store_rel y6 U rfl _ _ rfl rfl rfl ?_))
            have h3 := y6.setRow U
            exact bodyPost_ret (results_rel rfl _ _ _ _ rfl h3) rfl ⟨⟨U, rfl, by rw [← HE.out]; exact (HG.out.2.2 HF.out)⟩, below_setRow hb7 (Nat.le_refl _) _⟩
          · have E0 := fun w => run_eql_no N U hf w
            have G0 := fun (x y : Operand) (w : World) => run_guard_rel .eql x y N U w
            have HF := Lib.hid hf
            have hcn := HG.out.2.1 hf
            have hcl := cntP_le N
            have hgk : 0 < gk := by omega
            have hgm : 4096 ≤ (gk - 1) + cntP N := by omega
            have y7 := y7.far (g' := p8) (by omega) (rowsA N)
            have y6 := y6.far (g' := p8) (by omega) (rowsA N)
            have hb8 := below_setRow hb7 (g := p8) (by omega) (rowsA N)
            have HG2 := Lib.hid HG.out.1
            clear hf hcn hcl HG HF
            go_wp2_with (first | (with_reducible refine wpList_load_rel z9 rfl _ rfl rfl ?_) | (with_reducible refine wpList_load_rel y8 rfl _ rfl rfl ?_) | (with_reducible refine wpList_store_rel y8 N rfl _ _ rfl rfl rfl ?_))
            have y8 := y8.setRow N
            go_roundg (gk - 1)
            case measure => omega
            case rel => exact ⟨N, hgm, y8, y7, y6, HG2.out, hb8⟩
      · have HE2 : Hid ((orR (orR (M0) (rivM h A)) A) = startM h x A) := Lib.hid (by rw [HQ.out]; rw [if_neg e16, if_neg e8])
        go_wp2_with (first | (with_reducible refine wpList_load_rel z8 rfl _ rfl rfl ?_) | (with_reducible refine wpList_load_rel z7 rfl _ rfl rfl ?_))
        refine (union_any (orR (M0) (rivM h A)) A _).mono ?_
        rintro e wu ⟨rfl, hbu⟩
        have z8 := z8.below hbu z8.lt
        have z7 := (z7.below hbu z7.lt).far (g' := p8) (by omega) (rowsA (orR (orR (M0) (rivM h A)) A))
        have z6 := (z6.below hbu z6.lt).far (g' := p8) (by omega) (rowsA (orR (orR (M0) (rivM h A)) A))
        have hb := below_setRow (hb.trans (hbu.mono hb.size)) (g := p8) (by omega) (rowsA (orR (orR (M0) (rivM h A)) A))
        clear hbu
        go_wp2_with (with_reducible refine wpList_store_rel z8 (orR (orR (M0) (rivM h A)) A) rfl _ _ rfl rfl rfl ?_)
        have z8 := z8.setRow (orR (orR (M0) (rivM h A)) A)
        generalize World.setRow _ _ _ = wv at *
        obtain ⟨V, hV⟩ : ∃ V, V = orR (orR (M0) (rivM h A)) A := ⟨_, rfl⟩
        have HE : Hid (V = startM h x A) := Lib.hid (by rw [hV]; exact HE2.out)
        rw [← hV] at z8
        clear hV HE2
        simp only [Act.put]
        go_loopg [] (4096 - cntP V) (fun g wx => ∃ U : Mat, 4096 ≤ g + cntP U ∧ RelAt wx p8 37 U ∧ RelAt wx p7 37 A ∧ RelAt wx w.heap.size 37 noR ∧ Grown V A (trB x) (pfB x) U ∧ Below w.heap.size w wx)
        case atStart => exact ⟨V, by have := cntP_le V; omega, z8, z7, z6, Grown.start V A _ _, hb⟩
        case round =>
          obtain ⟨U, hg, y8, y7, y6, hGr, hbr⟩ := hrel
          clear z8 z7 z6 hb
          have hTr := HT.out _ hbr
          go_wp2_with (first | (with_reducible refine wpList_load_rel y8 rfl _ rfl rfl ?_) | (with_reducible refine wpList_load_rel y7 rfl _ rfl rfl ?_))
          refine (lmore_any x U A _ hTr).mono ?_
          rintro e w5 ⟨rfl, hb5⟩
          have y8 := y8.below hb5 y8.lt
          have y7 := y7.below hb5 y7.lt
          have y6 := y6.below hb5 y6.lt
          have hb6 := hbr.trans (hb5.mono hbr.size)
          have hl8 := y8.lt
          have hGn := hGr.next
          have hGc := hGr.count
          have hGd := hGr.done
          have HG := Lib.hid (And.intro hGn (And.intro hGc hGd))
          clear hGn hGc hGd hGr hbr hb5 hTr
          generalize moreM U A (trB x) (pfB x) = N at *
          have z9 := zero_block w5
          have hs6 := hb6.size
          have y8 := (y8.alloc (.cells #[.int .u64 0, .int .u64 0, .int .u64 0, .int .u64 0, .int .u64 0, .int .u64 0, .int .u64 0, .int .u64 0, .int .u64 0, .int .u64 0, .int .u64 0, .int .u64 0, .int .u64 0, .int .u64 0, .int .u64 0, .int .u64 0, .int .u64 0, .int .u64 0, .int .u64 0, .int .u64 0, .int .u64 0, .int .u64 0, .int .u64 0, .int .u64 0, .int .u64 0, .int .u64 0, .int .u64 0, .int .u64 0, .int .u64 0, .int .u64 0, .int .u64 0, .int .u64 0, .int .u64 0, .int .u64 0, .int .u64 0, .int .u64 0, .int .u64 0, .int .u64 0, .int .u64 0, .int .u64 0, .int .u64 0, .int .u64 0, .int .u64 0, .int .u64 0, .int .u64 0, .int .u64 0, .int .u64 0, .int .u64 0, .int .u64 0, .int .u64 0, .int .u64 0, .int .u64 0, .int .u64 0, .int .u64 0, .int .u64 0, .int .u64 0, .int .u64 0, .int .u64 0, .int .u64 0, .int .u64 0, .int .u64 0, .int .u64 0, .int .u64 0, .int .u64 0] 37)).far (g' := w5.heap.size) (by omega) (rowsA N)
          have y7 := (y7.alloc (.cells #[.int .u64 0, .int .u64 0, .int .u64 0, .int .u64 0, .int .u64 0, .int .u64 0, .int .u64 0, .int .u64 0, .int .u64 0, .int .u64 0, .int .u64 0, .int .u64 0, .int .u64 0, .int .u64 0, .int .u64 0, .int .u64 0, .int .u64 0, .int .u64 0, .int .u64 0, .int .u64 0, .int .u64 0, .int .u64 0, .int .u64 0, .int .u64 0, .int .u64 0, .int .u64 0, .int .u64 0, .int .u64 0, .int .u64 0, .int .u64 0, .int .u64 0, .int .u64 0, .int .u64 0, .int .u64 0, .int .u64 0, .int .u64 0, .int .u64 0, .int .u64 0, .int .u64 0, .int .u64 0, .int .u64 0, .int .u64 0, .int .u64 0, .int .u64 0, .int .u64 0, .int .u64 0, .int .u64 0, .int .u64 0, .int .u64 0, .int .u64 0, .int .u64 0, .int .u64 0, .int .u64 0, .int .u64 0, .int .u64 0, .int .u64 0, .int .u64 0, .int .u64 0, .int .u64 0, .int .u64 0, .int .u64 0, .int .u64 0, .int .u64 0, .int .u64 0] 37)).far (g' := w5.heap.size) (by omega) (rowsA N)
          have y6 := (y6.alloc (.cells #[.int .u64 0, .int .u64 0, .int .u64 0, .int .u64 0, .int .u64 0, .int .u64 0, .int .u64 0, .int .u64 0, .int .u64 0, .int .u64 0, .int .u64 0, .int .u64 0, .int .u64 0, .int .u64 0, .int .u64 0, .int .u64 0, .int .u64 0, .int .u64 0, .int .u64 0, .int .u64 0, .int .u64 0, .int .u64 0, .int .u64 0, .int .u64 0, .int .u64 0, .int .u64 0, .int .u64 0, .int .u64 0, .int .u64 0, .int .u64 0, .int .u64 0, .int .u64 0, .int .u64 0, .int .u64 0, .int .u64 0, .int .u64 0, .int .u64 0, .int .u64 0, .int .u64 0, .int .u64 0, .int .u64 0, .int .u64 0, .int .u64 0, .int .u64 0, .int .u64 0, .int .u64 0, .int .u64 0, .int .u64 0, .int .u64 0, .int .u64 0, .int .u64 0, .int .u64 0, .int .u64 0, .int .u64 0, .int .u64 0, .int .u64 0, .int .u64 0, .int .u64 0, .int .u64 0, .int .u64 0, .int .u64 0, .int .u64 0, .int .u64 0, .int .u64 0] 37)).far (g' := w5.heap.size) (by omega) (rowsA N)
          have hb7 := below_setRow (hb6.alloc hb6.size (.cells #[.int .u64 0, .int .u64 0, .int .u64 0, .int .u64 0, .int .u64 0, .int .u64 0, .int .u64 0, .int .u64 0, .int .u64 0, .int .u64 0, .int .u64 0, .int .u64 0, .int .u64 0, .int .u64 0, .int .u64 0, .int .u64 0, .int .u64 0, .int .u64 0, .int .u64 0, .int .u64 0, .int .u64 0, .int .u64 0, .int .u64 0, .int .u64 0, .int .u64 0, .int .u64 0, .int .u64 0, .int .u64 0, .int .u64 0, .int .u64 0, .int .u64 0, .int .u64 0, .int .u64 0, .int .u64 0, .int .u64 0, .int .u64 0, .int .u64 0, .int .u64 0, .int .u64 0, .int .u64 0, .int .u64 0, .int .u64 0, .int .u64 0, .int .u64 0, .int .u64 0, .int .u64 0, .int .u64 0, .int .u64 0, .int .u64 0, .int .u64 0, .int .u64 0, .int .u64 0, .int .u64 0, .int .u64 0, .int .u64 0, .int .u64 0, .int .u64 0, .int .u64 0, .int .u64 0, .int .u64 0, .int .u64 0, .int .u64 0, .int .u64 0, .int .u64 0] 37)) (g := w5.heap.size) (by omega) (rowsA N)
          clear hb6
          go_upto_region 8 with (with_reducible refine wpList_store_rel z9 N rfl _ _ rfl rfl rfl ?_)
          have z9 := z9.setRow N
          generalize World.setRow _ _ _ = w6 at *
          have hl9 := z9.lt
          by_cases hf : rowsA N = rowsA U
          · have E0 := fun w => run_eql_yes N U hf w
            have G0 := fun (x y : Operand) (w : World) => run_guard_rel .eql x y N U w
            have HF := Lib.hid hf
            clear hf
            go_wp2_with (first | (with_reducible refine wpList_load_rel z9 rfl _ rfl rfl ?_) | (with_reducible refine wpList_load_rel y8 rfl _ rfl rfl ?_) | (with_reducible refine wpList_store_rel y6 U rfl _ _ rfl rfl rfl ?_))
            have h3 := y6.setRow U
            exact bodyPost_ret (results_rel rfl _ _ _ _ rfl h3) rfl ⟨⟨U, rfl, by rw [← HE.out]; exact (HG.out.2.2 HF.out)⟩, below_setRow hb7 (Nat.le_refl _) _⟩
          · have E0 := fun w => run_eql_no N U hf w
            have G0 := fun (x y : Operand) (w : World) => run_guard_rel .eql x y N U w
            have HF := Lib.hid hf
            have hcn := HG.out.2.1 hf
            have hcl := cntP_le N
            have hgk : 0 < gk := by omega
            have hgm : 4096 ≤ (gk - 1) + cntP N := by omega
            have y7 := y7.far (g' := p8) (by omega) (rowsA N)
            have y6 := y6.far (g' := p8) (by omega) (rowsA N)
            have hb8 := below_setRow hb7 (g := p8) (by omega) (rowsA N)
            have HG2 := Lib.hid HG.out.1
            clear hf hcn hcl HG HF
            go_wp2_with (first | (with_reducible refine wpList_load_rel z9 rfl _ rfl rfl ?_) | (with_reducible refine wpList_load_rel y8 rfl _ rfl rfl ?_) | (with_reducible refine wpList_store_rel y8 N rfl _ _ rfl rfl rfl ?_))
            have y8 := y8.setRow N
            go_roundg (gk - 1)
            case measure => omega
            case rel => exact ⟨N, hgm, y8, y7, y6, HG2.out, hb8⟩
end Go.Proofs.YtkaldidcekcpnaaGreatDoor

namespace Go.Proofs.YtkaldidcekcpnaaGreatDoor
set_option maxRecDepth 100000

theorem must_in {S A : Mat} {tr pf : Bool} {V : Nat → Nat → Prop} (hS : ∀ i j, i < 64 → j < 64 → S i j = true → V i j) (ht : tr = true → ∀ i m j, i < 64 → m < 64 → j < 64 → V i m → V m j → V i j)
    (hp : pf = true → ∀ i m j, i < 64 → m < 64 → j < 64 → A i m = true → V m j → V i j) {i j : Nat} (h : Must S A tr pf i j) (hi : i < 64) (hj : j < 64) : V i j := by
  induction h with
  | base h => exact hS _ _ hi hj h
  | trans h1 hm _ _ ih1 ih2 => exact ht h1 _ _ _ hi hm hj (ih1 hi hm) (ih2 hm hj)
  | pre h1 hm ha _ ih => exact hp h1 _ _ _ hi hm hj ha (ih hm hj)
end Go.Proofs.YtkaldidcekcpnaaGreatDoor

namespace Go.Proofs.YtkaldidcekcpnaaGreatDoor
set_option maxRecDepth 100000
open Go.RowKit

/-- What the levels ask, by their numbers; their names. -/
def askL : List Nat := [0, 1, 3, 9, 5, 11, 13, 17, 34, 36, 44, 48]
def nameL : List (List UInt8) := [[114, 101, 97, 100, 45, 97, 116, 111, 109, 105, 99], [115, 101, 115, 115, 105, 111, 110, 45, 97, 116, 111, 109, 105, 99], [99, 97, 117, 115, 97, 108], [117, 112, 100, 97, 116, 101], [112, 114, 101, 102, 105, 120], [112, 97, 114, 97, 108, 108, 101, 108], [115, 110, 97, 112, 115, 104, 111, 116], [115, 101, 114, 105, 97, 108], [116, 105, 109, 101, 45, 99, 97, 117, 115, 97, 108], [116, 105, 109, 101, 45, 112, 114, 101, 102, 105, 120], [116, 105, 109, 101, 45, 115, 110, 97, 112, 115, 104, 111, 116], [115, 116, 114, 105, 99, 116]]
def askAt (k : Nat) : Nat := askL.getD k 0
def nameAt (k : Nat) : ByteArray := ⟨(nameL.getD k []).toArray⟩
theorem and63 (n : Int) : bits .and .i64 n 63 = n % 64 := by
  have h1 : (BitVec.ofInt 64 63) = 63#64 := by decide
  show IntKind.i64.wrap ((BitVec.ofInt 64 n &&& BitVec.ofInt 64 63).toNat : Int) = _
  have h2 : (BitVec.ofInt 64 n &&& BitVec.ofInt 64 63).toNat = (BitVec.ofInt 64 n).toNat % 64 := by
    rw [BitVec.toNat_and, h1]
    exact Nat.and_two_pow_sub_one_eq_mod _ 6
  rw [h2, BitVec.toNat_ofInt, IntKind.wrap_i64]
  omega
theorem i64_and_nat (a b : Nat) (ha : a < 9223372036854775808) (hb : b < 9223372036854775808) : bits .and .i64 (a : Int) (b : Int) = ((a &&& b : Nat) : Int) := by
  have hx : a &&& b ≤ a := Nat.and_le_left
  have h1 : (BitVec.ofInt 64 (a : Int)).toNat = a := by
    rw [BitVec.ofInt_natCast, BitVec.toNat_ofNat]; exact Nat.mod_eq_of_lt (by omega)
  have h2 : (BitVec.ofInt 64 (b : Int)).toNat = b := by
    rw [BitVec.ofInt_natCast, BitVec.toNat_ofNat]; exact Nat.mod_eq_of_lt (by omega)
  show IntKind.i64.wrap ((BitVec.ofInt 64 (a : Int) &&& BitVec.ofInt 64 (b : Int)).toNat : Int) = _
  rw [BitVec.toNat_and, h1, h2, IntKind.wrap_i64]
  omega
end Go.Proofs.YtkaldidcekcpnaaGreatDoor

namespace Go.Proofs.YtkaldidcekcpnaaGreatDoor
set_option maxRecDepth 100000
open Go.RowKit

/-- The table of the levels lies in memory. -/
def Kinds (w : World) : Prop := ∀ k, k < 12 → w.cell? ⟨0, k * 2, none⟩ = some (.string (nameAt k)) ∧ w.cell? ⟨0, k * 2 + 1, none⟩ = some (.int .i64 (askAt k))

end Go.Proofs.YtkaldidcekcpnaaGreatDoor

namespace Go.Proofs.YtkaldidcekcpnaaGreatDoor
set_option maxRecDepth 100000
open Go.RowKit

/-- One stands ahead of another one in a row. -/
def Ahead : List Int → Int → Int → Prop
  | [], _, _ => False
  | c :: L, a, b => Ahead L a b ∨ (c = a ∧ b ∈ L)
theorem Ahead.mem {a b : Int} : ∀ {L : List Int}, Ahead L a b → a ∈ L ∧ b ∈ L
  | [], h => h.elim
  | c :: L, h => by
    rcases h with h | ⟨rfl, h⟩
    · exact ⟨List.mem_cons_of_mem _ (Ahead.mem h).1, List.mem_cons_of_mem _ (Ahead.mem h).2⟩
    · exact ⟨List.mem_cons_self, List.mem_cons_of_mem _ h⟩
theorem ahead_at {a b : Int} : ∀ {L : List Int}, Ahead L a b ↔ ∃ i, i < L.length ∧ L.getD i 0 = a ∧ b ∈ L.drop (i + 1)
  | [] => by simp [Ahead]
  | c :: L => by
    unfold Ahead
    rw [ahead_at]
    constructor
    · rintro (⟨i, hi, h1, h2⟩ | ⟨rfl, h⟩)
      · exact ⟨i + 1, by simpa using hi, by simpa using h1, by simpa using h2⟩
      · exact ⟨0, by simp, by simp, by simpa using h⟩
    · rintro ⟨i, hi, h1, h2⟩
      cases i with
      | zero => exact .inr ⟨by simpa using h1, by simpa using h2⟩
      | succ i => exact .inl ⟨i, by simpa using hi, by simpa using h1, by simpa using h2⟩
theorem Ahead.trans {a m b : Int} : ∀ {L : List Int}, Ahead L a m → Ahead L m b → ¬ Ahead L m m → Ahead L a b
  | [], h, _, _ => h.elim
  | c :: L, h, k, hno => by
    rcases h with h | ⟨rfl, h⟩
    · rcases k with k | ⟨rfl, k⟩
      · exact .inl (Ahead.trans h k fun x => hno (.inl x))
      · exact absurd (.inr ⟨rfl, h.mem.2⟩) hno
    · rcases k with k | ⟨rfl, k⟩
      · exact .inr ⟨rfl, k.mem.2⟩
      · exact .inr ⟨rfl, k⟩
theorem behB_iff (L : List Int) (j : Nat) : behB L j = true ↔ (j : Int) ∈ L := by
  unfold behB
  rw [List.any_eq_true]
  constructor
  · rintro ⟨a, ha, e⟩; rw [beq_iff_eq] at e; exact e ▸ ha
  · intro h; exact ⟨_, h, by simp⟩
theorem chainR_iff (i j : Nat) : ∀ (L : List Int), chainR L i j = true ↔ Ahead L i j
  | [] => by simp [chainR, noR, Ahead]
  | c :: L => by
    show (chainR L i j || (c == (i : Int) && behB L j)) = true ↔ _
    rw [Bool.or_eq_true, Bool.and_eq_true, chainR_iff i j L, beq_iff_eq, behB_iff]; rfl
end Go.Proofs.YtkaldidcekcpnaaGreatDoor

namespace Go.Proofs.YtkaldidcekcpnaaGreatDoor
set_option maxRecDepth 100000
open Go.RowKit

theorem bc_of {h : List TxnV} (hc : checkI h = 0) {i : Nat} (hi : i < h.length) : h[i].b < h[i].c := by
  have h1 := (rowR_iff.1 (may_rows (may_of hc) i hi)).1
  unfold mayT at h1
  simp only [Bool.and_eq_true, decide_eq_true_eq] at h1
  omega
end Go.Proofs.YtkaldidcekcpnaaGreatDoor

namespace Go.Proofs.YtkaldidcekcpnaaGreatDoor
set_option maxRecDepth 100000
open Go.RowKit

theorem nat_bit (x k : Nat) : (x &&& 2 ^ k = 0) ↔ x.testBit k = false := by
  constructor
  · intro h
    have h1 : (x &&& 2 ^ k).testBit k = false := by rw [h]; exact Nat.zero_testBit k
    rw [Nat.testBit_and, Nat.testBit_two_pow] at h1
    simpa using h1
  · intro h
    refine Nat.eq_of_testBit_eq fun i => ?_
    rw [Nat.testBit_and, Nat.testBit_two_pow, Nat.zero_testBit]
    by_cases e : k = i
    · subst e; rw [h]; rfl
    · simp [e]
theorem bit_zero (x k : Nat) (hx : x < 9223372036854775808) (hk : 2 ^ k < 9223372036854775808) : bits .and .i64 (x : Int) ((2 ^ k : Nat) : Int) = 0 ↔ x.testBit k = false := by
  rw [i64_and_nat x (2 ^ k) hx hk, ← nat_bit]
  omega
theorem bit_1 (x : Nat) (hx : x < 9223372036854775808) : bits .and .i64 (x : Int) 1 = 0 ↔ x.testBit 0 = false := bit_zero x 0 hx (by omega)
theorem bit_2 (x : Nat) (hx : x < 9223372036854775808) : bits .and .i64 (x : Int) 2 = 0 ↔ x.testBit 1 = false := bit_zero x 1 hx (by omega)
theorem bit_4 (x : Nat) (hx : x < 9223372036854775808) : bits .and .i64 (x : Int) 4 = 0 ↔ x.testBit 2 = false := bit_zero x 2 hx (by omega)
theorem bit_8 (x : Nat) (hx : x < 9223372036854775808) : bits .and .i64 (x : Int) 8 = 0 ↔ x.testBit 3 = false := bit_zero x 3 hx (by omega)
theorem bit_16 (x : Nat) (hx : x < 9223372036854775808) : bits .and .i64 (x : Int) 16 = 0 ↔ x.testBit 4 = false := bit_zero x 4 hx (by omega)
theorem bit_32 (x : Nat) (hx : x < 9223372036854775808) : bits .and .i64 (x : Int) 32 = 0 ↔ x.testBit 5 = false := bit_zero x 5 hx (by omega)
theorem trB_bit (x : Nat) (hx : x < 9223372036854775808) : trB (x : Int) = x.testBit 1 := by
  unfold trB
  have := bit_2 x hx
  cases h : x.testBit 1 with
  | true => exact decide_eq_true (fun e => by rw [this.1 e] at h; cases h)
  | false => exact decide_eq_false (fun e => e (this.2 h))
theorem pfB_bit (x : Nat) (hx : x < 9223372036854775808) : pfB (x : Int) = x.testBit 2 := by
  unfold pfB
  have := bit_4 x hx
  cases h : x.testBit 2 with
  | true => exact decide_eq_true (fun e => by rw [this.1 e] at h; cases h)
  | false => exact decide_eq_false (fun e => e (this.2 h))
theorem baseM_iff (h : List TxnV) (x : Nat) (hx : x < 9223372036854775808) (i j : Nat) : baseM h (x : Int) i j = true ↔ froM h i j = true ∨ (x.testBit 0 = true ∧ sesM h i j = true) ∨ (x.testBit 5 = true ∧ timM h i j = true) := by
  have h1 := bit_1 x hx
  have h5 := bit_32 x hx
  unfold baseM baseQ
  cases e0 : x.testBit 0 <;> cases e5 : x.testBit 5
  · rw [if_pos (h5.2 e5), if_pos (h1.2 e0)]; simp
  · rw [if_neg (fun e => by rw [h5.1 e] at e5; cases e5), if_pos (h1.2 e0), orR_iff]; simp
  · rw [if_pos (h5.2 e5), if_neg (fun e => by rw [h1.1 e] at e0; cases e0), orR_iff]; simp
  · rw [if_neg (fun e => by rw [h5.1 e] at e5; cases e5), if_neg (fun e => by rw [h1.1 e] at e0; cases e0), orR_iff, orR_iff]; simp [or_assoc]
theorem startM_iff (h : List TxnV) (x : Nat) (hx : x < 9223372036854775808) (A : Mat) (i j : Nat) : startM h (x : Int) A i j = true ↔ baseM h (x : Int) i j = true ∨ (x.testBit 3 = true ∧ rivM h A i j = true) ∨ (x.testBit 4 = true ∧ A i j = true) := by
  have h3 := bit_8 x hx
  have h4 := bit_16 x hx
  unfold startM startQ
  cases e3 : x.testBit 3 <;> cases e4 : x.testBit 4
  · rw [if_pos (h4.2 e4), if_pos (h3.2 e3)]; simp
  · rw [if_neg (fun e => by rw [h4.1 e] at e4; cases e4), if_pos (h3.2 e3), orR_iff]; simp
  · rw [if_pos (h4.2 e4), if_neg (fun e => by rw [h3.1 e] at e3; cases e3), orR_iff]; simp
  · rw [if_neg (fun e => by rw [h4.1 e] at e4; cases e4), if_neg (fun e => by rw [h3.1 e] at e3; cases e3), orR_iff, orR_iff]; simp [or_assoc]
theorem rivM_in (h : List TxnV) (A : Mat) (i j : Nat) (hr : rivM h A i j = true) : A i j = true := by
  unfold rivM at hr
  rw [Bool.and_eq_true] at hr
  exact hr.1
theorem ahead_irr {L : List Int} (hn : L.Nodup) (a : Int) : ¬ Ahead L a a := by
  rw [ahead_at]
  rintro ⟨i, hi, h1, h2⟩
  obtain ⟨k, hk, h3⟩ := List.mem_iff_getElem.1 h2
  rw [List.length_drop] at hk
  rw [List.getElem_drop] at h3
  rw [List.getD_eq_getElem?_getD, List.getElem?_eq_getElem hi, Option.getD_some] at h1
  exact List.pairwise_iff_getElem.1 hn i (i + 1 + k) hi (by omega) (by omega) (h1.trans h3.symm)
theorem nodup_ofNat {L : List Nat} (h : L.Nodup) : (L.map Int.ofNat).Nodup := nodup_map Int.ofNat (fun _ _ e => Int.ofNat.inj e) h
theorem inM_iff (R S : Mat) : inM R S = true ↔ ∀ i j, i < 64 → j < 64 → R i j = true → S i j = true := by
  unfold inM inMTo
  rw [List.all_eq_true]
  constructor
  · intro h i j hi hj hr
    have h1 := (inB_iff (isSet_mkS _)).1 (h i (List.mem_range.2 hi)) j hj (by rw [testBit_mkS, hr, decide_eq_true hj]; rfl)
    rw [testBit_mkS, decide_eq_true hj] at h1
    simpa using h1
  · intro h i hi
    have hi := List.mem_range.1 hi
    rw [inB_iff (isSet_mkS _)]
    intro j hj hb
    rw [testBit_mkS, decide_eq_true hj] at hb ⊢
    simp only [Bool.true_and] at hb ⊢
    exact h i j hi hj hb
theorem hasR_nat (R : Mat) (i j : Nat) (hi : i < 64) (hj : j < 64) : hasR R (i : Int) (j : Int) = R i j := by
  unfold hasR mayB
  rw [Int.toNat_natCast, hasB_mkS _ _ hj, decide_eq_true (by omega), Bool.true_and]
/-- What least.Of answers. -/
def LeastIs (h : List TxnV) (x : Nat) (L : List Int) (R : Mat) : Prop := ∀ i j, i < 64 → j < 64 → (R i j = true ↔ Must (startM h (x : Int) (chainR L)) (chainR L) (trB x) (pfB x) i j)
end Go.Proofs.YtkaldidcekcpnaaGreatDoor

namespace Go.Proofs.YtkaldidcekcpnaaGreatDoor
set_option maxRecDepth 100000
open Go.RowKit

/-- An append onto an owned row, at a step of a region that draws: whatever is appended, nothing too. -/
theorem step_append_own {P : Program} (w : World) {ops : Array Oper} {o : Oper} {a : Act} {K : Act → World → Prop} {Q : Exit → Act → World → Prop} {E : Prop} (hgd : o.guard = none) (s x : Operand) (t : TypeId)
    (ho : o.op = .call { callee := .builtin .append, args := #[s, x], argTypes := #[t, t] })
    (base : Nat) (e : TypeId) (i : TypeInfo) (z : Value) (size bytes : Nat) (ht : P.underlying t = some (.slice e)) (hi : P.info? e = some i) (hz : i.zero = some z)
    (hsize : i.size = size) (hby : i.bytes = bytes) (hzs : z.cells.size = size) (hsz : 0 < size)
    (v : Value) (n : Nat) (xs : List Value) (hs : a.eval s = v) (hown : w.ownsRow base e size v n xs)
    (ad : Addr) (m c : Nat) (news : List Value) (hx : a.eval x = .slice (some ad) m c) (hl : news.length = m * size) (hnews : ∀ j u, news[j]? = some u → w.cell? (ad.add j) = some u) (h1 : ∀ u ∈ news, u.oneCell' = true)
    (h63 : n + m ≤ maxLen) (hbytes : (n + m) * bytes ≤ 140737488355328) (hbase : base ≤ w.heap.size)
    (h : ∀ v' w', w'.ownsRow base e size v' (n + m) (xs ++ news) → w.grownBy w' v.ownBlock → K (a.put o.dst v') w') :
    if Region.wanted o (yielded ops a.tmps) = true then Oper.wp P o a w K Q else E := by
  have hw : Region.wanted o (yielded ops a.tmps) = true := by simp [Region.wanted, hgd]
  rw [if_pos hw]
  obtain ⟨v', w', hr, h2, h3, _⟩ := run_append_own (P := P) w base t o.type e i z size bytes ht hi hz hsize hby hzs hsz v n xs hown ad m c news hl hnews h1 h63 hbytes hbase
  unfold Oper.wp execOp
  simp only [ho, resolve, invoke, builtin, Sem.run_bind, Sem.run_pure, Result.andThen_ok, List.map_toArray, List.map_cons, List.map_nil, hs, hx, hr]
  exact h v' w' h2 h3
end Go.Proofs.YtkaldidcekcpnaaGreatDoor

namespace Go.Proofs.YtkaldidcekcpnaaGreatDoor
set_option maxRecDepth 100000
open Go.RowKit

theorem ints_at {w : World} {ao : Option Addr} {n cap : Nat} {L : List Nat} (h : Ints w (.slice ao n cap) (L.map Int.ofNat)) {k : Nat} (hk : k < L.length) :
    ∃ b off, ao = some ⟨b, off, none⟩ ∧ w.cell? ⟨b, off + k, none⟩ = some (.int .i64 (L[k] : Int)) := by
  obtain ⟨b, off, h1, h2⟩ := h.at (k := k) (by simpa using hk)
  refine ⟨b, off, h1, ?_⟩
  rw [h2, List.getElem_map]; rfl
theorem Ints.grown {w w' : World} {v : Value} {xs : List Int} {row : Option Nat} (h : Ints w v xs) (hg : w.grownBy w' row) (hne : ∀ b, row = some b → v.ownBlock ≠ some b) : Ints w' v xs := by
  obtain ⟨hl, ao, cap, rfl, hm, hno, hc⟩ := h
  refine ⟨hl, ao, cap, rfl, hm, hno, fun hn => ?_⟩
  obtain ⟨b, off, rfl, hcell⟩ := hc hn
  refine ⟨b, off, rfl, fun i hi => ?_⟩
  have h2 := hcell i hi
  rw [List.getElem?_eq_getElem (by omega)] at h2 ⊢
  exact hg.cell h2 (fun e => hne b e.symm rfl)
theorem Ints.news {w : World} {g o n cap : Nat} {L : List Nat} (h : Ints w (.slice (some ⟨g, o, none⟩) n cap) (L.map Int.ofNat)) (k : Nat) :
    ∀ i u, ((L.drop k).map fun i : Nat => Value.int .i64 (i : Int))[i]? = some u → w.cell? ((⟨g, o + k, none⟩ : Addr).add i) = some u := by
  intro i u hu
  have hi : i < (L.drop k).length := by have := (List.getElem?_eq_some_iff.1 hu).1; simpa using this
  rw [List.length_drop] at hi
  obtain ⟨b, off, h1, h2⟩ := ints_at h (k := k + i) (by omega)
  cases h1
  rw [Addr.add_lit, Nat.add_assoc, h2, ← hu, List.getElem?_map, List.getElem?_drop, List.getElem?_eq_getElem (by omega)]
  rfl
end Go.Proofs.YtkaldidcekcpnaaGreatDoor

namespace Go.Proofs.YtkaldidcekcpnaaGreatDoor
set_option maxRecDepth 100000
open Go.RowKit

def smallI (h : List TxnV) : Int := if 7 < h.length ∨ checkI h ≠ 0 then 0 else 1
theorem small_no {h : List TxnV} (hs : smallI h ≠ 0) : h.length ≤ 7 ∧ checkI h = 0 ∧ smallI h = 1 := by
  unfold smallI at *
  split at hs
  · exact (hs rfl).elim
  · rename_i hn
    rw [if_neg hn]
    have h1 : ¬ 7 < h.length := fun e => hn (.inl e)
    have h2 : ¬ checkI h ≠ 0 := fun e => hn (.inr e)
    exact ⟨by omega, Decidable.not_not.1 h2, rfl⟩
set_option maxHeartbeats 4000000 in
theorem small_any (va : Value) (h : List TxnV) (w : World) (hT : Txns w va h) (hsh : Short h) :
    Calls Tryz.prog 15 #[va] w fun e w' => e = .returned (.int .i64 (smallI h)) ∧ Below w.heap.size w w' := by
  have CC := Lib.hid (rcheck_any va h w hT hsh)
  rw [← check_ref] at CC
  have HS : Hid (smallI h = if 7 < h.length ∨ checkI h ≠ 0 then 0 else 1) := Lib.hid rfl
  generalize smallI h = s at *
  generalize checkI h = c at *
  obtain ⟨ao, cap, rfl, hal⟩ := hT.form
  clear hT hsh
  by_cases h7 : 7 < h.length
  · have h7i : (7 : Int) < (h.length : Int) := by omega
    have HR : Hid ((0 : Int) = s) := Lib.hid (by rw [HS.out, if_pos (.inl h7)])
    clear HS
    go_enter Tryz.func15, Tryz.ntmps15
    go_wp2_with fail
    go_ret
    exact ⟨ret_i HR.out, Below.refl _ _⟩
  · have h7i : ¬ (7 : Int) < (h.length : Int) := by omega
    by_cases hc : c = 0
    · have HR : Hid ((1 : Int) = s) := Lib.hid (by rw [HS.out, if_neg (by omega)])
      subst hc
      clear HS
      go_enter Tryz.func15, Tryz.ntmps15
      go_wp2_with fail
      refine (CC.out).mono ?_
      rintro e w1 ⟨rfl, hb⟩
      go_wp2_with fail
      go_ret
      exact ⟨ret_i HR.out, hb⟩
    · have HR : Hid ((0 : Int) = s) := Lib.hid (by rw [HS.out, if_pos (.inr hc)])
      clear HS
      go_enter Tryz.func15, Tryz.ntmps15
      go_wp2_with fail
      refine (CC.out).mono ?_
      rintro e w1 ⟨rfl, hb⟩
      go_wp2_with fail
      go_ret
      exact ⟨ret_i HR.out, hb⟩
/-- Those that stand to a number, of the numbers below k. -/
def seeTo (R : Mat) (i : Int) (k : Nat) : Nat := (List.range k).foldl (fun (s : Nat) (a : Nat) => if hasR R (a : Int) i then withS s (a : Int) else s) 0
theorem seeTo_succ (R : Mat) (i : Int) (k : Nat) : seeTo R i (k + 1) = if hasR R (k : Int) i then withS (seeTo R i k) (k : Int) else seeTo R i k := by
  unfold seeTo; rw [List.range_succ, List.foldl_append]; rfl
theorem seeTo_set (R : Mat) (i : Int) : ∀ k, IsSet (seeTo R i k)
  | 0 => by unfold seeTo IsSet; simp
  | k + 1 => by
    rw [seeTo_succ]
    split
    · exact isSet_withS (seeTo_set R i k)
    · exact seeTo_set R i k
theorem seeTo_bit (R : Mat) (i : Int) (j : Nat) : ∀ k, k ≤ 64 → (seeTo R i k).testBit j = (decide (j < k) && hasR R (j : Int) i)
  | 0, _ => by simp [seeTo]
  | k + 1, hk => by
    have ih := seeTo_bit R i j k (by omega)
    rw [seeTo_succ]
    by_cases e : j = k
    · subst e
      have h1 : decide (0 ≤ (j : Int) ∧ (j : Int) < 64) = true := by simp; omega
      cases hh : hasR R (j : Int) i with
      | true => rw [if_pos rfl, testBit_withS, h1, Int.toNat_natCast]; simp
      | false => rw [if_neg (by simp), ih]; simp [hh]
    · have h1 : decide (j < k + 1) = decide (j < k) := by rw [decide_eq_decide]; omega
      split
      · have h2 : decide ((k : Int).toNat = j) = false := decide_eq_false (by rw [Int.toNat_natCast]; omega)
        rw [testBit_withS, ih, h1, h2, Bool.and_false, Bool.or_false]
      · rw [ih, h1]
set_option maxHeartbeats 4000000 in
theorem lsees_any (R : Mat) (i : Int) (w : World) :
    Calls Tryz.prog 26 #[.agg (rowsA R), .int .i64 i] w fun e w' => e = .returned (.int .u64 ((seeTo R i 64 : Nat) : Int)) ∧ Below w.heap.size w w' := by
  have r0 : RelAt (w.alloc (.cells (rowsA R) 37)) w.heap.size 37 R := RelAt.made w _ _ rfl rfl
  have hb0 := box_below w (.cells (rowsA R) 37)
  go_enter Tryz.func26, Tryz.ntmps26
  go_wp2_with fail
  go_loopw [5, 7] (fun s k wr => ∃ n : Nat, n ≤ 64 ∧ k = .int .i64 n ∧ s = .int .u64 ((seeTo R i n : Nat) : Int) ∧ RelAt wr w.heap.size 37 R ∧ Below w.heap.size w wr) (fun _ k _ => 64 - (intOf k).toNat)
  case atStart => exact ⟨0, by omega, rfl, rfl, r0, hb0⟩
  case round =>
    obtain ⟨n, hn, rfl, rfl, hr, hb⟩ := hrel
    clear r0 hb0
    have hset := seeTo_set R i n
    by_cases hlt : n < 64
    · have hni : (n : Int) < 64 := by omega
      have HS := Lib.hid (seeTo_succ R i n)
      go_wp2_with (with_reducible refine wpList_load_rel hr rfl _ rfl rfl ?_)
      refine (rhasR_any _ _ _ _).mono ?_
      rintro e w1 ⟨rfl, hb1⟩
      have hr1 := hr.below hb1 hr.lt
      have hbb := hb.trans (hb1.mono hb.size)
      clear hr hb
      cases hh : hasR R (n : Int) i with
      | true =>
        have HV : Hid (withS (seeTo R i n) (n : Int) = seeTo R i (n + 1)) := Lib.hid (by rw [HS.out, hh]; rfl)
        clear hh HS
        generalize seeTo R i n = a at *
        go_wp2_with fail
        refine (with_any _ _ _ hset).mono ?_
        rintro e w2 ⟨rfl, rfl⟩
        go_wp2_with fail
        go_roundw
        case rel => exact ⟨n + 1, by omega, by go_num, by rw [HV.out], hr1, hbb⟩
        case measure => simp [intOf]; omega
      | false =>
        have HV : Hid (seeTo R i n = seeTo R i (n + 1)) := Lib.hid (by rw [HS.out, hh]; rfl)
        clear hh HS
        go_wp2_with fail
        go_roundw
        case rel => exact ⟨n + 1, by omega, by go_num, by rw [HV.out], hr1, hbb⟩
        case measure => simp [intOf]; omega
    · have hn2 : n = 64 := by omega
      subst hn2
      go_wp2_with fail
      go_ret
      exact ⟨rfl, hb⟩
end Go.Proofs.YtkaldidcekcpnaaGreatDoor
