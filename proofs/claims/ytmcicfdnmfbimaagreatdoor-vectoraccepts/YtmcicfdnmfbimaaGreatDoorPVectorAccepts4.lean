/- Walks and plain facts that the proof of the statement VectorAccepts uses, joined: LeaE RelX RelY LeaF LeaG AxiA AxiB AxiC. Conditions: each theorem's own. -/
import Derived.Deep.LoopGhost
import Derived.ChangeKeysEq
import Derived.Deep.AppendLies
import Derived.Deep.RegionLaw
import Derived.Great.BuildSlice
import Derived.KernelRfl
import Derived.Test.YtmcicfdnmfbimaaGreatDoorPVectorAccepts2
import Derived.Test.YtmcicfdnmfbimaaGreatDoorPVectorAccepts3
namespace Go.Proofs.YtmcicfdnmfbimaaGreatDoor
set_option maxHeartbeats 32000000
set_option maxRecDepth 100000
open Lib (hid)
section
open Go.RowKit
structure Grown (V A : Mat) (tr pf : Bool) (U : Mat) : Prop where
 h : ∀ i j, V i j = true → U i j = true
 m : ∀ i j, i < 64 → j < 64 → U i j = true → Must V A tr pf i j
theorem Grown.start (V A : Mat) (tr pf : Bool) : Grown V A tr pf V := ⟨fun _ _ h => h, fun _ _ _ _ h => .base h⟩
section
variable {V A U : Mat} {tr pf : Bool}
theorem Grown.next (g : Grown V A tr pf U) : Grown V A tr pf (moreM U A tr pf) := ⟨fun i j h => moreM_grows (g.h i j h), fun i j hi hj h => moreM_sound g.m i j hi hj h⟩
theorem Grown.count (_ : Grown V A tr pf U) (hf : rowsA (moreM U A tr pf) ≠ rowsA U) : cntP U < cntP (moreM U A tr pf) := cntP_lt (fun _ _ h => moreM_grows h) (fun e => hf e.symm)
theorem Grown.done (g : Grown V A tr pf U) (hf : rowsA (moreM U A tr pf) = rowsA U) : ∀ i j, i < 64 → j < 64 → (U i j = true ↔ Must V A tr pf i j) := fun i j hi hj => ⟨g.m i j hi hj, fun h => more_done (fun i j _ _ h => g.h i j h) hf h hi hj⟩
end
theorem eq_items (R S : Mat) (w : World) : ∀ (is : List Nat), (∀ i ∈ is, i < 64) → (Op.eqItems 9999 96 1 (rowsA R) (rowsA S) is).run Tryz.prog w = .ok (is.all fun i => mkS (R i) == mkS (S i)) w
 | [], _ => by simp [Op.eqItems]
 | i :: is, h => by
  have hi := h i List.mem_cons_self
  have h1 := rowsA_at R hi
  have h2 := rowsA_at S hi
  have ih := eq_items R S w is (fun j hj => h j (List.mem_cons_of_mem _ hj))
  have hp : (part 96 (rowsA R) (i * 1)).run Tryz.prog w = .ok (.int .u64 ((mkS (R i) : Nat) : Int)) w := by
   simp [part, isAgg, Sem.run_bind, run_underlying Tryz.underlying96 w, h1]
  have hp2 : (part 96 (rowsA S) (i * 1)).run Tryz.prog w = .ok (.int .u64 ((mkS (S i) : Nat) : Int)) w := by
   simp [part, isAgg, Sem.run_bind, run_underlying Tryz.underlying96 w, h2]
  have he : (Op.equalIn (9998 + 1) 96 (.int .u64 ((mkS (R i) : Nat) : Int)) (.int .u64 ((mkS (S i) : Nat) : Int))).run Tryz.prog w = .ok (mkS (R i) == mkS (S i)) w := by
   rw [run_equalIn_int w 9998 96 .u64 .u64 _ _ Tryz.underlying96]
   simp
   rw [Bool.eq_iff_iff, beq_iff_eq, beq_iff_eq]
   omega
  simp only [Op.eqItems, Sem.run_bind, hp, hp2, Result.andThen_ok]
  rw [he]
  simp only [Result.andThen_ok]
  cases hb : (mkS (R i) == mkS (S i)) with
  | true =>
   simp only [Bool.not_true, Bool.false_eq_true, if_false]
   rw [ih]; simp [hb]
  | false => simp [hb]
theorem rows_all (R S : Mat) : ((List.range 64).all fun i => mkS (R i) == mkS (S i)) = true ↔ rowsA R = rowsA S := by
 rw [List.all_eq_true]
 constructor
 ·intro h
  unfold rowsA
  congr 1
  refine List.map_congr_left fun i hi => ?_
  have := h i hi
  simp only [beq_iff_eq] at this
  rw [this]
 ·intro h i hi
  have hi := List.mem_range.1 hi
  have h1 := rowsA_at R hi
  rw [h, rowsA_at S hi] at h1
  have := Option.some.inj h1
  simp only [Value.int.injEq, true_and] at this
  simp; omega
theorem run_eql_yes (R S : Mat) (hf : rowsA R = rowsA S) (w : World) : (binOp .eql 98 (.agg (rowsA R)) (.agg (rowsA S))).run Tryz.prog w = .ok (.bool true) w := by
 obtain ⟨i, hi, _⟩ := Option.map_eq_some_iff.1 infoSet
 have hc : Tryz.prog.cellsOf 96 = 1 := by kernel_rfl
 rw [run_eql_struct, run_equalIn_array w 9999 (rowsA R) (rowsA S) Tryz.underlying98 hi, hc, eq_items R S w _ (fun i hi => List.mem_range.1 hi), (rows_all R S).2 hf]
 rfl
theorem run_eql_no (R S : Mat) (hf : ¬ rowsA R = rowsA S) (w : World) : (binOp .eql 98 (.agg (rowsA R)) (.agg (rowsA S))).run Tryz.prog w = .ok (.bool false) w := by
 obtain ⟨i, hi, _⟩ := Option.map_eq_some_iff.1 infoSet
 have hc : Tryz.prog.cellsOf 96 = 1 := by kernel_rfl
 have hn : ((List.range 64).all fun i => mkS (R i) == mkS (S i)) = false := by
  cases h : ((List.range 64).all fun i => mkS (R i) == mkS (S i)) with
  | false => rfl
  | true => exact absurd ((rows_all R S).1 h) hf
 rw [run_eql_struct, run_equalIn_array w 9999 (rowsA R) (rowsA S) Tryz.underlying98 hi, hc, eq_items R S w _ (fun i hi => List.mem_range.1 hi), hn]
 rfl
theorem run_guard_rel (o : BinOp) (x y : Operand) (R S : Mat) (w : World) : Sem.run Tryz.prog (eqGuard o 98 x y (.agg (rowsA R)) (.agg (rowsA S))) w = .ok () w :=
 run_eqGuard_agg w o 98 x y _ _ (by kernel_rfl)
def startQ (h : List TxnV) (x : Int) (A : Mat) (q8 q16 : Int) : Mat := if q16 = 0 then (if q8 = 0 then baseM h x else orR (baseM h x) (rivM h A)) else orR (if q8 = 0 then baseM h x else orR (baseM h x) (rivM h A)) A
def startM (h : List TxnV) (x : Int) (A : Mat) : Mat := startQ h x A (bits .and .i64 x 8) (bits .and .i64 x 16)
theorem lof_any (x : Int) (va : Value) (l : List Int) (h : List TxnV) (B b : Nat) (w : World) (hO : OrdIs w B b h) (hc : checkI h = 0) (ht : Tab w) (hl : Ints w va l) :
  Calls Tryz.prog 130 #[.pointer (some ⟨B, 0, none⟩), .int .i64 x, va] w fun e w' => (∃ R, e = .returned (.agg (rowsA R)) ∧ ∀ i j, i < 64 → j < 64 → (R i j = true ↔ Must (startM h x (chainR l)) (chainR l) (trB x) (pfB x) i j)) ∧ Below w.heap.size w w' := by
 have hg := ht.pos
 have HT : Hid (∀ wx, Below w.heap.size w wx → Tab wx) := hid (fun wx hb => ht.below hb hg)
 have HO := hid (fun wx (hx : Below w.heap.size w wx) => hO.below hx)
 have HC := hid hc
 obtain ⟨q8, h8⟩ : ∃ q, bits .and .i64 x 8 = q := ⟨_, rfl⟩
 obtain ⟨q16, h16⟩ : ∃ q, bits .and .i64 x 16 = q := ⟨_, rfl⟩
 have hb0 := box_below w (.cells Z64 98)
 have CH := hid (chain_any va l (w.alloc (.cells Z64 98)) (hl.below hb0))
 obtain ⟨ao, cap, rfl, hal⟩ := hl.form
 have HQ : Hid (startM h x (chainR l) = startQ h x (chainR l) q8 q16) := hid (by unfold startM; rw [h8, h16])
 generalize chainR l = A at *
 have z6 := zero_block w
 clear hO hc ht hl
 go_enter Tryz.func130, Tryz.ntmps130
 go_wp2_with fail
 refine (CH.out).mono ?_
 rintro e w1 ⟨rfl, hb1⟩
 have z6 := z6.below hb1 (by simp)
 have hb2 := below_then hb0 hb1
 clear hb1 hb0 CH
 have hs1 := hb2.size
 have z7 := zero_block w1
 have hl6 := z6.lt
 have z6 := (z6.alloc (.cells Z64 98)).far (g' := w1.heap.size) (by omega) (rowsA A)
 have hb3 := below_setRow (hb2.alloc hb2.size (.cells Z64 98)) (g := w1.heap.size) (by omega) (rowsA A)
 clear hb2
 go_upto_region 2 with (with_reducible refine wpList_store_rel z7 A rfl _ _ rfl rfl rfl ?_)
 have z7 := z7.setRow A
 generalize World.setRow _ _ _ = w2 at *
 generalize w1.heap.size = p7 at *
 have CB := hid (lbase_any x h B w2 (HO.out _ hb3).blk)
 obtain ⟨M0, hM0⟩ : ∃ M0, M0 = baseM h x := ⟨_, rfl⟩
 rw [← hM0] at CB
 have HQ : Hid (startM h x A = if q16 = 0 then (if q8 = 0 then M0 else orR M0 (rivM h A)) else orR (if q8 = 0 then M0 else orR M0 (rivM h A)) A) := hid (by rw [HQ.out, hM0]; rfl)
 clear hM0
 go_wp2_with fail
 refine (CB.out).mono ?_
 rintro e w3 ⟨rfl, hb4⟩
 have z6 := z6.below hb4 z6.lt
 have z7 := z7.below hb4 z7.lt
 have hb5 := hb3.trans (hb4.mono hb3.size)
 clear hb3 hb4 CB
 have hs3 := hb5.size
 have hl7 := z7.lt
 have hl6 := z6.lt
 have z8 := zero_block w3
 have z7 := (z7.alloc (.cells Z64 98)).far (g' := w3.heap.size) (by omega) (rowsA M0)
 have z6 := (z6.alloc (.cells Z64 98)).far (g' := w3.heap.size) (by omega) (rowsA M0)
 have hb := below_setRow (hb5.alloc hb5.size (.cells Z64 98)) (g := w3.heap.size) (by omega) (rowsA M0)
 clear hb5
 go_upto_region 3 with (with_reducible refine wpList_store_rel z8 M0 rfl _ _ rfl rfl rfl ?_)
 have z8 := z8.setRow M0
 generalize World.setRow _ _ _ = w4 at *
 generalize w3.heap.size = p8 at *
 by_cases e8 : q8 = 0
 ·subst e8
  go_upto_region 5 with fail
  by_cases e16 : q16 = 0
  ·have HE2 : Hid ((M0) = startM h x A) := hid (by rw [HQ.out]; rw [if_pos e16, if_pos rfl])
   subst e16
   obtain ⟨V, hV⟩ : ∃ V, V = M0 := ⟨_, rfl⟩
   have HE : Hid (V = startM h x A) := hid (by rw [hV]; exact HE2.out)
   rw [← hV] at z8
   clear hV HE2
   go_wp2_with fail
   go_loopg [] (4096 - cntP V) (fun g wx => ∃ U : Mat, 4096 ≤ g + cntP U ∧ RelAt wx p8 98 U ∧ RelAt wx p7 98 A ∧ RelAt wx w.heap.size 98 noR ∧ Grown V A (trB x) (pfB x) U ∧ Below w.heap.size w wx)
   case atStart => exact ⟨V, by have := cntP_le V; omega, z8, z7, z6, Grown.start V A _ _, hb⟩
   case round =>
    obtain ⟨U, hg, y8, y7, y6, hGr, hbr⟩ := hrel
    clear z8 z7 z6 hb
    have hTr := HT.out _ hbr
    go_wp2_with (first | (with_reducible refine wpList_load_rel y8 rfl _ rfl rfl ?_) | (with_reducible refine wpList_load_rel y7 rfl _ rfl rfl ?_))
    refine (lmore_any x U A _ hTr).mono ?_
    rintro e w5 ⟨rfl, hb5⟩
    have y8 := y8.below hb5 y8.lt
    have y7 := y7.below hb5 y7.lt
    have y6 := y6.below hb5 y6.lt
    have hb6 := hbr.trans (hb5.mono hbr.size)
    have hl8 := y8.lt
    have hGn := hGr.next
    have hGc := hGr.count
    have hGd := hGr.done
    have HG := hid (And.intro hGn (And.intro hGc hGd))
    clear hGn hGc hGd hGr hbr hb5 hTr
    generalize moreM U A (trB x) (pfB x) = N at *
    have z9 := zero_block w5
    have hs6 := hb6.size
    have y8 := (y8.alloc (.cells Z64 98)).far (g' := w5.heap.size) (by omega) (rowsA N)
    have y7 := (y7.alloc (.cells Z64 98)).far (g' := w5.heap.size) (by omega) (rowsA N)
    have y6 := (y6.alloc (.cells Z64 98)).far (g' := w5.heap.size) (by omega) (rowsA N)
    have hb7 := below_setRow (hb6.alloc hb6.size (.cells Z64 98)) (g := w5.heap.size) (by omega) (rowsA N)
    clear hb6
    go_upto_region 8 with (with_reducible refine wpList_store_rel z9 N rfl _ _ rfl rfl rfl ?_)
    have z9 := z9.setRow N
    generalize World.setRow _ _ _ = w6 at *
    have hl9 := z9.lt
    by_cases hf : rowsA N = rowsA U
    ·have E0 := fun w => run_eql_yes N U hf w
     have G0 := fun (x y : Operand) (w : World) => run_guard_rel .eql x y N U w
     have HF := hid hf
     clear hf
     go_wp2_with (first | (with_reducible refine wpList_load_rel z9 rfl _ rfl rfl ?_) | (with_reducible refine wpList_load_rel y8 rfl _ rfl rfl ?_) | (with_reducible refine wpList_store_rel y6 U rfl _ _ rfl rfl rfl ?_))
     have h3 := y6.setRow U
     exact bodyPost_ret (results_rel rfl _ _ _ _ rfl h3) rfl ⟨⟨U, rfl, by rw [← HE.out]; exact (HG.out.2.2 HF.out)⟩, below_setRow hb7 (Nat.le_refl _) _⟩
    ·have E0 := fun w => run_eql_no N U hf w
     have G0 := fun (x y : Operand) (w : World) => run_guard_rel .eql x y N U w
     have HF := hid hf
     have hcn := HG.out.2.1 hf
     have hcl := cntP_le N
     have hgk : 0 < gk := by omega
     have hgm : 4096 ≤ (gk - 1) + cntP N := by omega
     have y7 := y7.far (g' := p8) (by omega) (rowsA N)
     have y6 := y6.far (g' := p8) (by omega) (rowsA N)
     have hb8 := below_setRow hb7 (g := p8) (by omega) (rowsA N)
     have HG2 := hid HG.out.1
     clear hf hcn hcl HG HF
     go_wp2_with (first | (with_reducible refine wpList_load_rel z9 rfl _ rfl rfl ?_) | (with_reducible refine wpList_load_rel y8 rfl _ rfl rfl ?_) | (with_reducible refine wpList_store_rel y8 N rfl _ _ rfl rfl rfl ?_))
     have y8 := y8.setRow N
     go_roundg (gk - 1)
     case measure => omega
     case rel => exact ⟨N, hgm, y8, y7, y6, HG2.out, hb8⟩
  ·have HE2 : Hid ((orR (M0) A) = startM h x A) := hid (by rw [HQ.out]; rw [if_neg e16, if_pos rfl])
   go_wp2_with (first | (with_reducible refine wpList_load_rel z8 rfl _ rfl rfl ?_) | (with_reducible refine wpList_load_rel z7 rfl _ rfl rfl ?_))
   refine (union_any (M0) A _).mono ?_
   rintro e wu ⟨rfl, hbu⟩
   have z8 := z8.below hbu z8.lt
   have z7 := (z7.below hbu z7.lt).far (g' := p8) (by omega) (rowsA (orR (M0) A))
   have z6 := (z6.below hbu z6.lt).far (g' := p8) (by omega) (rowsA (orR (M0) A))
   have hb := below_setRow (hb.trans (hbu.mono hb.size)) (g := p8) (by omega) (rowsA (orR (M0) A))
   clear hbu
   go_wp2_with (with_reducible refine wpList_store_rel z8 (orR (M0) A) rfl _ _ rfl rfl rfl ?_)
   have z8 := z8.setRow (orR (M0) A)
   generalize World.setRow _ _ _ = wv at *
   obtain ⟨V, hV⟩ : ∃ V, V = orR (M0) A := ⟨_, rfl⟩
   have HE : Hid (V = startM h x A) := hid (by rw [hV]; exact HE2.out)
   rw [← hV] at z8
   clear hV HE2
   simp only [Act.put]
   go_loopg [] (4096 - cntP V) (fun g wx => ∃ U : Mat, 4096 ≤ g + cntP U ∧ RelAt wx p8 98 U ∧ RelAt wx p7 98 A ∧ RelAt wx w.heap.size 98 noR ∧ Grown V A (trB x) (pfB x) U ∧ Below w.heap.size w wx)
   case atStart => exact ⟨V, by have := cntP_le V; omega, z8, z7, z6, Grown.start V A _ _, hb⟩
   case round =>
    obtain ⟨U, hg, y8, y7, y6, hGr, hbr⟩ := hrel
    clear z8 z7 z6 hb
    have hTr := HT.out _ hbr
    go_wp2_with (first | (with_reducible refine wpList_load_rel y8 rfl _ rfl rfl ?_) | (with_reducible refine wpList_load_rel y7 rfl _ rfl rfl ?_))
    refine (lmore_any x U A _ hTr).mono ?_
    rintro e w5 ⟨rfl, hb5⟩
    have y8 := y8.below hb5 y8.lt
    have y7 := y7.below hb5 y7.lt
    have y6 := y6.below hb5 y6.lt
    have hb6 := hbr.trans (hb5.mono hbr.size)
    have hl8 := y8.lt
    have hGn := hGr.next
    have hGc := hGr.count
    have hGd := hGr.done
    have HG := hid (And.intro hGn (And.intro hGc hGd))
    clear hGn hGc hGd hGr hbr hb5 hTr
    generalize moreM U A (trB x) (pfB x) = N at *
    have z9 := zero_block w5
    have hs6 := hb6.size
    have y8 := (y8.alloc (.cells Z64 98)).far (g' := w5.heap.size) (by omega) (rowsA N)
    have y7 := (y7.alloc (.cells Z64 98)).far (g' := w5.heap.size) (by omega) (rowsA N)
    have y6 := (y6.alloc (.cells Z64 98)).far (g' := w5.heap.size) (by omega) (rowsA N)
    have hb7 := below_setRow (hb6.alloc hb6.size (.cells Z64 98)) (g := w5.heap.size) (by omega) (rowsA N)
    clear hb6
    go_upto_region 8 with (with_reducible refine wpList_store_rel z9 N rfl _ _ rfl rfl rfl ?_)
    have z9 := z9.setRow N
    generalize World.setRow _ _ _ = w6 at *
    have hl9 := z9.lt
    by_cases hf : rowsA N = rowsA U
    ·have E0 := fun w => run_eql_yes N U hf w
     have G0 := fun (x y : Operand) (w : World) => run_guard_rel .eql x y N U w
     have HF := hid hf
     clear hf
     go_wp2_with (first | (with_reducible refine wpList_load_rel z9 rfl _ rfl rfl ?_) | (with_reducible refine wpList_load_rel y8 rfl _ rfl rfl ?_) | (with_reducible refine wpList_store_rel y6 U rfl _ _ rfl rfl rfl ?_))
     have h3 := y6.setRow U
     exact bodyPost_ret (results_rel rfl _ _ _ _ rfl h3) rfl ⟨⟨U, rfl, by rw [← HE.out]; exact (HG.out.2.2 HF.out)⟩, below_setRow hb7 (Nat.le_refl _) _⟩
    ·have E0 := fun w => run_eql_no N U hf w
     have G0 := fun (x y : Operand) (w : World) => run_guard_rel .eql x y N U w
     have HF := hid hf
     have hcn := HG.out.2.1 hf
     have hcl := cntP_le N
     have hgk : 0 < gk := by omega
     have hgm : 4096 ≤ (gk - 1) + cntP N := by omega
     have y7 := y7.far (g' := p8) (by omega) (rowsA N)
     have y6 := y6.far (g' := p8) (by omega) (rowsA N)
     have hb8 := below_setRow hb7 (g := p8) (by omega) (rowsA N)
     have HG2 := hid HG.out.1
     clear hf hcn hcl HG HF
     go_wp2_with (first | (with_reducible refine wpList_load_rel z9 rfl _ rfl rfl ?_) | (with_reducible refine wpList_load_rel y8 rfl _ rfl rfl ?_) | (with_reducible refine wpList_store_rel y8 N rfl _ _ rfl rfl rfl ?_))
     have y8 := y8.setRow N
     go_roundg (gk - 1)
     case measure => omega
     case rel => exact ⟨N, hgm, y8, y7, y6, HG2.out, hb8⟩
 ·go_upto_region 4 with fail
  have kd := (Below.refl w4.heap.size w4).drew
  have HV : Hid (∀ wx, Below w4.heap.size w4 wx → RelAt wx p8 98 (M0)) := hid (fun wx hx => z8.below hx z8.lt)
  have HA : Hid (∀ wx, Below w4.heap.size w4 wx → RelAt wx p7 98 A) := hid (fun wx hx => z7.below hx z7.lt)
  have HZ : Hid (∀ wx, Below w4.heap.size w4 wx → RelAt wx w.heap.size 98 noR) := hid (fun wx hx => z6.below hx z6.lt)
  have HB := hid (fun wx (hx : Below w4.heap.size w4 wx) => hb.trans (hx.mono hb.size))
  have CR := hid (fun wx (hx : Below w4.heap.size w4 wx) => lrivals_any A h B b wx (HO.out wx (hb.trans (hx.mono hb.size))) HC.out)
  clear z6 z7 z8 hb
  refine wp_region_held_drew (S := fun wx => RelAt wx p7 98 A) (by kernel_rfl) (HA.out _ kd) (fun hS0 => ?_)
  refine tG (some 19) 1 ?v1 rfl rfl (Or.inl ⟨by rfl, ?h1⟩) hS0 ?r1
  case h1 => (intro w hw; go_simp; try (with_reducible rfl))
  try simp only [Act.put, zA, zB, zC]
  refine tG (some 20) 2 _ rfl rfl (yields_rel (by rfl) _ rfl rfl (fun wx hx => hx)) hS0 ?_
  try simp only [Act.put, zA, zB, zC]
  refine wpAnyH_ready (rs := [0, 3]) (by kernel_rfl) (by simp) ?_
  refine AllReadyH.cons rfl (fun K hK => ?_) (AllReadyH.cons rfl (fun K hK => ?_) AllReadyH.nil)
  ·
   rw [if_pos (by rfl)]
   refine wp_load_rel (HV.out _ kd) _ rfl rfl ?_
   refine hK.out _ _ hS0 (fun _ => ?_)
   clear hK K
   refine rD 3 rfl (fun K hK => ?_)
   go_simp
   refine (CR.out _ kd).mono ?_
   rintro e q1 ⟨rfl, hq1⟩
   show K _ _
   have k1 := below_then kd hq1
   have s1 := HA.out _ k1
   refine hK.out _ _ s1 (fun _ => ?_)
   clear hK K
   refine rD 4 rfl (fun K hK => ?_)
   go_simp
   refine (union_any (M0) (rivM h A) _).mono ?_
   rintro e q2 ⟨rfl, hq2⟩
   show K _ _
   have k2 := below_then k1 hq2
   have s2 := HA.out _ k2
   refine hK.out _ _ s2 (fun _ => ?_)
   clear hK K
   refine rD 5 rfl (fun K hK => ?_)
   rw [if_pos (by rfl)]
   refine wp_store_rel (HV.out _ k2) (orR (M0) (rivM h A)) _ _ rfl rfl rfl ?_
   refine hK.out _ _ ((HA.out _ k2).far (by omega) _) (fun _ => ?_)
   clear hK K
   refine wpAnyH_done (by kernel_rfl) ?_ _
   have z8 := (HV.out _ k2).setRow (orR (M0) (rivM h A))
   have z7 := (HA.out _ k2).far (g' := p8) (by omega) (rowsA (orR (M0) (rivM h A)))
   have z6 := (HZ.out _ k2).far (g' := p8) (by omega) (rowsA (orR (M0) (rivM h A)))
   have hb := below_setRow (HB.out _ k2) (g := p8) (by omega) (rowsA (orR (M0) (rivM h A)))
   generalize World.setRow _ _ _ = w6 at *
   clear HV HA HZ HB CR kd
   go_upto_region 5 with fail
   by_cases e16 : q16 = 0
   ·have HE2 : Hid ((orR (M0) (rivM h A)) = startM h x A) := hid (by rw [HQ.out]; rw [if_pos e16, if_neg e8])
    subst e16
    obtain ⟨V, hV⟩ : ∃ V, V = orR (M0) (rivM h A) := ⟨_, rfl⟩
    have HE : Hid (V = startM h x A) := hid (by rw [hV]; exact HE2.out)
    rw [← hV] at z8
    clear hV HE2
    go_wp2_with fail
    go_loopg [] (4096 - cntP V) (fun g wx => ∃ U : Mat, 4096 ≤ g + cntP U ∧ RelAt wx p8 98 U ∧ RelAt wx p7 98 A ∧ RelAt wx w.heap.size 98 noR ∧ Grown V A (trB x) (pfB x) U ∧ Below w.heap.size w wx)
    case atStart => exact ⟨V, by have := cntP_le V; omega, z8, z7, z6, Grown.start V A _ _, hb⟩
    case round =>
     obtain ⟨U, hg, y8, y7, y6, hGr, hbr⟩ := hrel
     clear z8 z7 z6 hb
     have hTr := HT.out _ hbr
     go_wp2_with (first | (with_reducible refine wpList_load_rel y8 rfl _ rfl rfl ?_) | (with_reducible refine wpList_load_rel y7 rfl _ rfl rfl ?_))
     refine (lmore_any x U A _ hTr).mono ?_
     rintro e w5 ⟨rfl, hb5⟩
     have y8 := y8.below hb5 y8.lt
     have y7 := y7.below hb5 y7.lt
     have y6 := y6.below hb5 y6.lt
     have hb6 := hbr.trans (hb5.mono hbr.size)
     have hl8 := y8.lt
     have hGn := hGr.next
     have hGc := hGr.count
     have hGd := hGr.done
     have HG := hid (And.intro hGn (And.intro hGc hGd))
     clear hGn hGc hGd hGr hbr hb5 hTr
     generalize moreM U A (trB x) (pfB x) = N at *
     have z9 := zero_block w5
     have hs6 := hb6.size
     have y8 := (y8.alloc (.cells Z64 98)).far (g' := w5.heap.size) (by omega) (rowsA N)
     have y7 := (y7.alloc (.cells Z64 98)).far (g' := w5.heap.size) (by omega) (rowsA N)
     have y6 := (y6.alloc (.cells Z64 98)).far (g' := w5.heap.size) (by omega) (rowsA N)
     have hb7 := below_setRow (hb6.alloc hb6.size (.cells Z64 98)) (g := w5.heap.size) (by omega) (rowsA N)
     clear hb6
     go_upto_region 8 with (with_reducible refine wpList_store_rel z9 N rfl _ _ rfl rfl rfl ?_)
     have z9 := z9.setRow N
     generalize World.setRow _ _ _ = w6 at *
     have hl9 := z9.lt
     by_cases hf : rowsA N = rowsA U
     ·have E0 := fun w => run_eql_yes N U hf w
      have G0 := fun (x y : Operand) (w : World) => run_guard_rel .eql x y N U w
      have HF := hid hf
      clear hf
      go_wp2_with (first | (with_reducible refine wpList_load_rel z9 rfl _ rfl rfl ?_) | (with_reducible refine wpList_load_rel y8 rfl _ rfl rfl ?_) | (with_reducible refine wpList_store_rel y6 U rfl _ _ rfl rfl rfl ?_))
      have h3 := y6.setRow U
      exact bodyPost_ret (results_rel rfl _ _ _ _ rfl h3) rfl ⟨⟨U, rfl, by rw [← HE.out]; exact (HG.out.2.2 HF.out)⟩, below_setRow hb7 (Nat.le_refl _) _⟩
     ·have E0 := fun w => run_eql_no N U hf w
      have G0 := fun (x y : Operand) (w : World) => run_guard_rel .eql x y N U w
      have HF := hid hf
      have hcn := HG.out.2.1 hf
      have hcl := cntP_le N
      have hgk : 0 < gk := by omega
      have hgm : 4096 ≤ (gk - 1) + cntP N := by omega
      have y7 := y7.far (g' := p8) (by omega) (rowsA N)
      have y6 := y6.far (g' := p8) (by omega) (rowsA N)
      have hb8 := below_setRow hb7 (g := p8) (by omega) (rowsA N)
      have HG2 := hid HG.out.1
      clear hf hcn hcl HG HF
      go_wp2_with (first | (with_reducible refine wpList_load_rel z9 rfl _ rfl rfl ?_) | (with_reducible refine wpList_load_rel y8 rfl _ rfl rfl ?_) | (with_reducible refine wpList_store_rel y8 N rfl _ _ rfl rfl rfl ?_))
      have y8 := y8.setRow N
      go_roundg (gk - 1)
      case measure => omega
      case rel => exact ⟨N, hgm, y8, y7, y6, HG2.out, hb8⟩
   ·have HE2 : Hid ((orR (orR (M0) (rivM h A)) A) = startM h x A) := hid (by rw [HQ.out]; rw [if_neg e16, if_neg e8])
    go_wp2_with (first | (with_reducible refine wpList_load_rel z8 rfl _ rfl rfl ?_) | (with_reducible refine wpList_load_rel z7 rfl _ rfl rfl ?_))
    refine (union_any (orR (M0) (rivM h A)) A _).mono ?_
    rintro e wu ⟨rfl, hbu⟩
    have z8 := z8.below hbu z8.lt
    have z7 := (z7.below hbu z7.lt).far (g' := p8) (by omega) (rowsA (orR (orR (M0) (rivM h A)) A))
    have z6 := (z6.below hbu z6.lt).far (g' := p8) (by omega) (rowsA (orR (orR (M0) (rivM h A)) A))
    have hb := below_setRow (hb.trans (hbu.mono hb.size)) (g := p8) (by omega) (rowsA (orR (orR (M0) (rivM h A)) A))
    clear hbu
    go_wp2_with (with_reducible refine wpList_store_rel z8 (orR (orR (M0) (rivM h A)) A) rfl _ _ rfl rfl rfl ?_)
    have z8 := z8.setRow (orR (orR (M0) (rivM h A)) A)
    generalize World.setRow _ _ _ = wv at *
    obtain ⟨V, hV⟩ : ∃ V, V = orR (orR (M0) (rivM h A)) A := ⟨_, rfl⟩
    have HE : Hid (V = startM h x A) := hid (by rw [hV]; exact HE2.out)
    rw [← hV] at z8
    clear hV HE2
    simp only [Act.put]
    go_loopg [] (4096 - cntP V) (fun g wx => ∃ U : Mat, 4096 ≤ g + cntP U ∧ RelAt wx p8 98 U ∧ RelAt wx p7 98 A ∧ RelAt wx w.heap.size 98 noR ∧ Grown V A (trB x) (pfB x) U ∧ Below w.heap.size w wx)
    case atStart => exact ⟨V, by have := cntP_le V; omega, z8, z7, z6, Grown.start V A _ _, hb⟩
    case round =>
     obtain ⟨U, hg, y8, y7, y6, hGr, hbr⟩ := hrel
     clear z8 z7 z6 hb
     have hTr := HT.out _ hbr
     go_wp2_with (first | (with_reducible refine wpList_load_rel y8 rfl _ rfl rfl ?_) | (with_reducible refine wpList_load_rel y7 rfl _ rfl rfl ?_))
     refine (lmore_any x U A _ hTr).mono ?_
     rintro e w5 ⟨rfl, hb5⟩
     have y8 := y8.below hb5 y8.lt
     have y7 := y7.below hb5 y7.lt
     have y6 := y6.below hb5 y6.lt
     have hb6 := hbr.trans (hb5.mono hbr.size)
     have hl8 := y8.lt
     have hGn := hGr.next
     have hGc := hGr.count
     have hGd := hGr.done
     have HG := hid (And.intro hGn (And.intro hGc hGd))
     clear hGn hGc hGd hGr hbr hb5 hTr
     generalize moreM U A (trB x) (pfB x) = N at *
     have z9 := zero_block w5
     have hs6 := hb6.size
     have y8 := (y8.alloc (.cells Z64 98)).far (g' := w5.heap.size) (by omega) (rowsA N)
     have y7 := (y7.alloc (.cells Z64 98)).far (g' := w5.heap.size) (by omega) (rowsA N)
     have y6 := (y6.alloc (.cells Z64 98)).far (g' := w5.heap.size) (by omega) (rowsA N)
     have hb7 := below_setRow (hb6.alloc hb6.size (.cells Z64 98)) (g := w5.heap.size) (by omega) (rowsA N)
     clear hb6
     go_upto_region 8 with (with_reducible refine wpList_store_rel z9 N rfl _ _ rfl rfl rfl ?_)
     have z9 := z9.setRow N
     generalize World.setRow _ _ _ = w6 at *
     have hl9 := z9.lt
     by_cases hf : rowsA N = rowsA U
     ·have E0 := fun w => run_eql_yes N U hf w
      have G0 := fun (x y : Operand) (w : World) => run_guard_rel .eql x y N U w
      have HF := hid hf
      clear hf
      go_wp2_with (first | (with_reducible refine wpList_load_rel z9 rfl _ rfl rfl ?_) | (with_reducible refine wpList_load_rel y8 rfl _ rfl rfl ?_) | (with_reducible refine wpList_store_rel y6 U rfl _ _ rfl rfl rfl ?_))
      have h3 := y6.setRow U
      exact bodyPost_ret (results_rel rfl _ _ _ _ rfl h3) rfl ⟨⟨U, rfl, by rw [← HE.out]; exact (HG.out.2.2 HF.out)⟩, below_setRow hb7 (Nat.le_refl _) _⟩
     ·have E0 := fun w => run_eql_no N U hf w
      have G0 := fun (x y : Operand) (w : World) => run_guard_rel .eql x y N U w
      have HF := hid hf
      have hcn := HG.out.2.1 hf
      have hcl := cntP_le N
      have hgk : 0 < gk := by omega
      have hgm : 4096 ≤ (gk - 1) + cntP N := by omega
      have y7 := y7.far (g' := p8) (by omega) (rowsA N)
      have y6 := y6.far (g' := p8) (by omega) (rowsA N)
      have hb8 := below_setRow hb7 (g := p8) (by omega) (rowsA N)
      have HG2 := hid HG.out.1
      clear hf hcn hcl HG HF
      go_wp2_with (first | (with_reducible refine wpList_load_rel z9 rfl _ rfl rfl ?_) | (with_reducible refine wpList_load_rel y8 rfl _ rfl rfl ?_) | (with_reducible refine wpList_store_rel y8 N rfl _ _ rfl rfl rfl ?_))
      have y8 := y8.setRow N
      go_roundg (gk - 1)
      case measure => omega
      case rel => exact ⟨N, hgm, y8, y7, y6, HG2.out, hb8⟩
  ·
   go_simp
   refine (CR.out _ kd).mono ?_
   rintro e q3 ⟨rfl, hq3⟩
   show K _ _
   have k3 := below_then kd hq3
   have s3 := HA.out _ k3
   refine hK.out _ _ s3 (fun _ => ?_)
   clear hK K
   refine rD 0 rfl (fun K hK => ?_)
   rw [if_pos (by rfl)]
   refine wp_load_rel (HV.out _ k3) _ rfl rfl ?_
   refine hK.out _ _ s3 (fun _ => ?_)
   clear hK K
   refine rD 4 rfl (fun K hK => ?_)
   go_simp
   refine (union_any (M0) (rivM h A) _).mono ?_
   rintro e q4 ⟨rfl, hq4⟩
   show K _ _
   have k4 := below_then k3 hq4
   have s4 := HA.out _ k4
   refine hK.out _ _ s4 (fun _ => ?_)
   clear hK K
   refine rD 5 rfl (fun K hK => ?_)
   rw [if_pos (by rfl)]
   refine wp_store_rel (HV.out _ k4) (orR (M0) (rivM h A)) _ _ rfl rfl rfl ?_
   refine hK.out _ _ ((HA.out _ k4).far (by omega) _) (fun _ => ?_)
   clear hK K
   refine wpAnyH_done (by kernel_rfl) ?_ _
   have z8 := (HV.out _ k4).setRow (orR (M0) (rivM h A))
   have z7 := (HA.out _ k4).far (g' := p8) (by omega) (rowsA (orR (M0) (rivM h A)))
   have z6 := (HZ.out _ k4).far (g' := p8) (by omega) (rowsA (orR (M0) (rivM h A)))
   have hb := below_setRow (HB.out _ k4) (g := p8) (by omega) (rowsA (orR (M0) (rivM h A)))
   generalize World.setRow _ _ _ = w6 at *
   clear HV HA HZ HB CR kd
   go_upto_region 5 with fail
   by_cases e16 : q16 = 0
   ·have HE2 : Hid ((orR (M0) (rivM h A)) = startM h x A) := hid (by rw [HQ.out]; rw [if_pos e16, if_neg e8])
    subst e16
    obtain ⟨V, hV⟩ : ∃ V, V = orR (M0) (rivM h A) := ⟨_, rfl⟩
    have HE : Hid (V = startM h x A) := hid (by rw [hV]; exact HE2.out)
    rw [← hV] at z8
    clear hV HE2
    go_wp2_with fail
    go_loopg [] (4096 - cntP V) (fun g wx => ∃ U : Mat, 4096 ≤ g + cntP U ∧ RelAt wx p8 98 U ∧ RelAt wx p7 98 A ∧ RelAt wx w.heap.size 98 noR ∧ Grown V A (trB x) (pfB x) U ∧ Below w.heap.size w wx)
    case atStart => exact ⟨V, by have := cntP_le V; omega, z8, z7, z6, Grown.start V A _ _, hb⟩
    case round =>
     obtain ⟨U, hg, y8, y7, y6, hGr, hbr⟩ := hrel
     clear z8 z7 z6 hb
     have hTr := HT.out _ hbr
     go_wp2_with (first | (with_reducible refine wpList_load_rel y8 rfl _ rfl rfl ?_) | (with_reducible refine wpList_load_rel y7 rfl _ rfl rfl ?_))
     refine (lmore_any x U A _ hTr).mono ?_
     rintro e w5 ⟨rfl, hb5⟩
     have y8 := y8.below hb5 y8.lt
     have y7 := y7.below hb5 y7.lt
     have y6 := y6.below hb5 y6.lt
     have hb6 := hbr.trans (hb5.mono hbr.size)
     have hl8 := y8.lt
     have hGn := hGr.next
     have hGc := hGr.count
     have hGd := hGr.done
     have HG := hid (And.intro hGn (And.intro hGc hGd))
     clear hGn hGc hGd hGr hbr hb5 hTr
     generalize moreM U A (trB x) (pfB x) = N at *
     have z9 := zero_block w5
     have hs6 := hb6.size
     have y8 := (y8.alloc (.cells Z64 98)).far (g' := w5.heap.size) (by omega) (rowsA N)
     have y7 := (y7.alloc (.cells Z64 98)).far (g' := w5.heap.size) (by omega) (rowsA N)
     have y6 := (y6.alloc (.cells Z64 98)).far (g' := w5.heap.size) (by omega) (rowsA N)
     have hb7 := below_setRow (hb6.alloc hb6.size (.cells Z64 98)) (g := w5.heap.size) (by omega) (rowsA N)
     clear hb6
     go_upto_region 8 with (with_reducible refine wpList_store_rel z9 N rfl _ _ rfl rfl rfl ?_)
     have z9 := z9.setRow N
     generalize World.setRow _ _ _ = w6 at *
     have hl9 := z9.lt
     by_cases hf : rowsA N = rowsA U
     ·have E0 := fun w => run_eql_yes N U hf w
      have G0 := fun (x y : Operand) (w : World) => run_guard_rel .eql x y N U w
      have HF := hid hf
      clear hf
      go_wp2_with (first | (with_reducible refine wpList_load_rel z9 rfl _ rfl rfl ?_) | (with_reducible refine wpList_load_rel y8 rfl _ rfl rfl ?_) | (with_reducible refine wpList_store_rel y6 U rfl _ _ rfl rfl rfl ?_))
      have h3 := y6.setRow U
      exact bodyPost_ret (results_rel rfl _ _ _ _ rfl h3) rfl ⟨⟨U, rfl, by rw [← HE.out]; exact (HG.out.2.2 HF.out)⟩, below_setRow hb7 (Nat.le_refl _) _⟩
     ·have E0 := fun w => run_eql_no N U hf w
      have G0 := fun (x y : Operand) (w : World) => run_guard_rel .eql x y N U w
      have HF := hid hf
      have hcn := HG.out.2.1 hf
      have hcl := cntP_le N
      have hgk : 0 < gk := by omega
      have hgm : 4096 ≤ (gk - 1) + cntP N := by omega
      have y7 := y7.far (g' := p8) (by omega) (rowsA N)
      have y6 := y6.far (g' := p8) (by omega) (rowsA N)
      have hb8 := below_setRow hb7 (g := p8) (by omega) (rowsA N)
      have HG2 := hid HG.out.1
      clear hf hcn hcl HG HF
      go_wp2_with (first | (with_reducible refine wpList_load_rel z9 rfl _ rfl rfl ?_) | (with_reducible refine wpList_load_rel y8 rfl _ rfl rfl ?_) | (with_reducible refine wpList_store_rel y8 N rfl _ _ rfl rfl rfl ?_))
      have y8 := y8.setRow N
      go_roundg (gk - 1)
      case measure => omega
      case rel => exact ⟨N, hgm, y8, y7, y6, HG2.out, hb8⟩
   ·have HE2 : Hid ((orR (orR (M0) (rivM h A)) A) = startM h x A) := hid (by rw [HQ.out]; rw [if_neg e16, if_neg e8])
    go_wp2_with (first | (with_reducible refine wpList_load_rel z8 rfl _ rfl rfl ?_) | (with_reducible refine wpList_load_rel z7 rfl _ rfl rfl ?_))
    refine (union_any (orR (M0) (rivM h A)) A _).mono ?_
    rintro e wu ⟨rfl, hbu⟩
    have z8 := z8.below hbu z8.lt
    have z7 := (z7.below hbu z7.lt).far (g' := p8) (by omega) (rowsA (orR (orR (M0) (rivM h A)) A))
    have z6 := (z6.below hbu z6.lt).far (g' := p8) (by omega) (rowsA (orR (orR (M0) (rivM h A)) A))
    have hb := below_setRow (hb.trans (hbu.mono hb.size)) (g := p8) (by omega) (rowsA (orR (orR (M0) (rivM h A)) A))
    clear hbu
    go_wp2_with (with_reducible refine wpList_store_rel z8 (orR (orR (M0) (rivM h A)) A) rfl _ _ rfl rfl rfl ?_)
    have z8 := z8.setRow (orR (orR (M0) (rivM h A)) A)
    generalize World.setRow _ _ _ = wv at *
    obtain ⟨V, hV⟩ : ∃ V, V = orR (orR (M0) (rivM h A)) A := ⟨_, rfl⟩
    have HE : Hid (V = startM h x A) := hid (by rw [hV]; exact HE2.out)
    rw [← hV] at z8
    clear hV HE2
    simp only [Act.put]
    go_loopg [] (4096 - cntP V) (fun g wx => ∃ U : Mat, 4096 ≤ g + cntP U ∧ RelAt wx p8 98 U ∧ RelAt wx p7 98 A ∧ RelAt wx w.heap.size 98 noR ∧ Grown V A (trB x) (pfB x) U ∧ Below w.heap.size w wx)
    case atStart => exact ⟨V, by have := cntP_le V; omega, z8, z7, z6, Grown.start V A _ _, hb⟩
    case round =>
     obtain ⟨U, hg, y8, y7, y6, hGr, hbr⟩ := hrel
     clear z8 z7 z6 hb
     have hTr := HT.out _ hbr
     go_wp2_with (first | (with_reducible refine wpList_load_rel y8 rfl _ rfl rfl ?_) | (with_reducible refine wpList_load_rel y7 rfl _ rfl rfl ?_))
     refine (lmore_any x U A _ hTr).mono ?_
     rintro e w5 ⟨rfl, hb5⟩
     have y8 := y8.below hb5 y8.lt
     have y7 := y7.below hb5 y7.lt
     have y6 := y6.below hb5 y6.lt
     have hb6 := hbr.trans (hb5.mono hbr.size)
     have hl8 := y8.lt
     have hGn := hGr.next
     have hGc := hGr.count
     have hGd := hGr.done
     have HG := hid (And.intro hGn (And.intro hGc hGd))
     clear hGn hGc hGd hGr hbr hb5 hTr
     generalize moreM U A (trB x) (pfB x) = N at *
     have z9 := zero_block w5
     have hs6 := hb6.size
     have y8 := (y8.alloc (.cells Z64 98)).far (g' := w5.heap.size) (by omega) (rowsA N)
     have y7 := (y7.alloc (.cells Z64 98)).far (g' := w5.heap.size) (by omega) (rowsA N)
     have y6 := (y6.alloc (.cells Z64 98)).far (g' := w5.heap.size) (by omega) (rowsA N)
     have hb7 := below_setRow (hb6.alloc hb6.size (.cells Z64 98)) (g := w5.heap.size) (by omega) (rowsA N)
     clear hb6
     go_upto_region 8 with (with_reducible refine wpList_store_rel z9 N rfl _ _ rfl rfl rfl ?_)
     have z9 := z9.setRow N
     generalize World.setRow _ _ _ = w6 at *
     have hl9 := z9.lt
     by_cases hf : rowsA N = rowsA U
     ·have E0 := fun w => run_eql_yes N U hf w
      have G0 := fun (x y : Operand) (w : World) => run_guard_rel .eql x y N U w
      have HF := hid hf
      clear hf
      go_wp2_with (first | (with_reducible refine wpList_load_rel z9 rfl _ rfl rfl ?_) | (with_reducible refine wpList_load_rel y8 rfl _ rfl rfl ?_) | (with_reducible refine wpList_store_rel y6 U rfl _ _ rfl rfl rfl ?_))
      have h3 := y6.setRow U
      exact bodyPost_ret (results_rel rfl _ _ _ _ rfl h3) rfl ⟨⟨U, rfl, by rw [← HE.out]; exact (HG.out.2.2 HF.out)⟩, below_setRow hb7 (Nat.le_refl _) _⟩
     ·have E0 := fun w => run_eql_no N U hf w
      have G0 := fun (x y : Operand) (w : World) => run_guard_rel .eql x y N U w
      have HF := hid hf
      have hcn := HG.out.2.1 hf
      have hcl := cntP_le N
      have hgk : 0 < gk := by omega
      have hgm : 4096 ≤ (gk - 1) + cntP N := by omega
      have y7 := y7.far (g' := p8) (by omega) (rowsA N)
      have y6 := y6.far (g' := p8) (by omega) (rowsA N)
      have hb8 := below_setRow hb7 (g := p8) (by omega) (rowsA N)
      have HG2 := hid HG.out.1
      clear hf hcn hcl HG HF
      go_wp2_with (first | (with_reducible refine wpList_load_rel z9 rfl _ rfl rfl ?_) | (with_reducible refine wpList_load_rel y8 rfl _ rfl rfl ?_) | (with_reducible refine wpList_store_rel y8 N rfl _ _ rfl rfl rfl ?_))
      have y8 := y8.setRow N
      go_roundg (gk - 1)
      case measure => omega
      case rel => exact ⟨N, hgm, y8, y7, y6, HG2.out, hb8⟩
end

section
open Go.RowKit
theorem step_append_own {P : Program} (w : World) {ops : Array Oper} {o : Oper} {a : Act} {K : Act → World → Prop} {Q : Exit → Act → World → Prop} {E : Prop} (hgd : o.guard = none) (s x : Operand) (t : TypeId)
  (ho : o.op = .call { callee := .builtin .append, args := #[s, x], argTypes := #[t, t] })
  (base : Nat) (e : TypeId) (i : TypeInfo) (z : Value) (size bytes : Nat) (ht : P.underlying t = some (.slice e)) (hi : P.info? e = some i) (hz : i.zero = some z)
  (hsize : i.size = size) (hby : i.bytes = bytes) (hzs : z.cells.size = size) (hsz : 0 < size)
  (v : Value) (n : Nat) (xs : List Value) (hs : a.eval s = v) (hown : w.ownsRow base e size v n xs)
  (ad : Addr) (m c : Nat) (news : List Value) (hx : a.eval x = .slice (some ad) m c) (hl : news.length = m * size) (hnews : ∀ j u, news[j]? = some u → w.cell? (ad.add j) = some u) (h1 : ∀ u ∈ news, u.oneCell' = true)
  (h63 : n + m ≤ maxLen) (hbytes : (n + m) * bytes ≤ 140737488355328) (hbase : base ≤ w.heap.size)
  (h : ∀ v' w', w'.ownsRow base e size v' (n + m) (xs ++ news) → w.grownBy w' v.ownBlock → K (a.put o.dst v') w') :
  if Region.wanted o (yielded ops a.tmps) = true then Oper.wp P o a w K Q else E := by
 have hw : Region.wanted o (yielded ops a.tmps) = true := by simp [Region.wanted, hgd]
 rw [if_pos hw]
 obtain ⟨v', w', hr, h2, h3, _⟩ := run_append_own (P := P) w base t o.type e i z size bytes ht hi hz hsize hby hzs hsz v n xs hown ad m c news hl hnews h1 h63 hbytes hbase
 unfold Oper.wp execOp
 simp only [ho, resolve, invoke, builtin, Sem.run_bind, Sem.run_pure, Result.andThen_ok, List.map_toArray, List.map_cons, List.map_nil, hs, hx, hr]
 exact h v' w' h2 h3
end

section
open Go.RowKit
theorem ints_at {w : World} {ao : Option Addr} {n cap : Nat} {L : List Nat} (h : Ints w (.slice ao n cap) (L.map Int.ofNat)) {k : Nat} (hk : k < L.length) :
  ∃ b off, ao = some ⟨b, off, none⟩ ∧ w.cell? ⟨b, off + k, none⟩ = some (.int .i64 (L[k] : Int)) := by
 obtain ⟨b, off, h1, h2⟩ := h.at (k := k) (by simpa using hk)
 refine ⟨b, off, h1, ?_⟩
 rw [h2, List.getElem_map]; rfl
theorem Ints.grown {w w' : World} {v : Value} {xs : List Int} {row : Option Nat} (h : Ints w v xs) (hg : w.grownBy w' row) (hne : ∀ b, row = some b → v.ownBlock ≠ some b) : Ints w' v xs := by
 obtain ⟨hl, ao, cap, rfl, hm, hno, hc⟩ := h
 refine ⟨hl, ao, cap, rfl, hm, hno, fun hn => ?_⟩
 obtain ⟨b, off, rfl, hcell⟩ := hc hn
 refine ⟨b, off, rfl, fun i hi => ?_⟩
 have h2 := hcell i hi
 rw [List.getElem?_eq_getElem (by omega)] at h2 ⊢
 exact hg.cell h2 (fun e => hne b e.symm rfl)
theorem Ints.news {w : World} {g o n cap : Nat} {L : List Nat} (h : Ints w (.slice (some ⟨g, o, none⟩) n cap) (L.map Int.ofNat)) (k : Nat) :
  ∀ i u, ((L.drop k).map fun i : Nat => Value.int .i64 (i : Int))[i]? = some u → w.cell? ((⟨g, o + k, none⟩ : Addr).add i) = some u := by
 intro i u hu
 have hi : i < (L.drop k).length := by have := (List.getElem?_eq_some_iff.1 hu).1; simpa using this
 rw [List.length_drop] at hi
 obtain ⟨b, off, h1, h2⟩ := ints_at h (k := k + i) (by omega)
 cases h1
 rw [Addr.add_lit, Nat.add_assoc, h2, ← hu, List.getElem?_map, List.getElem?_drop, List.getElem?_eq_getElem (by omega)]
 rfl
end

section
open Go.RowKit
def seeTo (R : Mat) (i : Int) (k : Nat) : Nat := (List.range k).foldl (fun (s : Nat) (a : Nat) => if hasR R (a : Int) i then withS s (a : Int) else s) 0
theorem seeTo_succ (R : Mat) (i : Int) (k : Nat) : seeTo R i (k + 1) = if hasR R (k : Int) i then withS (seeTo R i k) (k : Int) else seeTo R i k := by
 unfold seeTo; rw [List.range_succ, List.foldl_append]; rfl
theorem seeTo_set (R : Mat) (i : Int) : ∀ k, IsSet (seeTo R i k)
 | 0 => by unfold seeTo IsSet; simp
 | k + 1 => by
  rw [seeTo_succ]
  split
  ·exact isSet_withS (seeTo_set R i k)
  ·exact seeTo_set R i k
theorem seeTo_bit (R : Mat) (i : Int) (j : Nat) : ∀ k, k ≤ 64 → (seeTo R i k).testBit j = (decide (j < k) && hasR R (j : Int) i)
 | 0, _ => by simp [seeTo]
 | k + 1, hk => by
  have ih := seeTo_bit R i j k (by omega)
  rw [seeTo_succ]
  by_cases e : j = k
  ·subst e
   have h1 : decide (0 ≤ (j : Int) ∧ (j : Int) < 64) = true := by simp; omega
   cases hh : hasR R (j : Int) i with
   | true => rw [if_pos rfl, testBit_withS, h1, Int.toNat_natCast]; simp
   | false => rw [if_neg (by simp), ih]; simp [hh]
  ·have h1 : decide (j < k + 1) = decide (j < k) := by rw [decide_eq_decide]; omega
   split
   ·have h2 : decide ((k : Int).toNat = j) = false := decide_eq_false (by rw [Int.toNat_natCast]; omega)
    rw [testBit_withS, ih, h1, h2, Bool.and_false, Bool.or_false]
   ·rw [ih, h1]
theorem lsees_any (R : Mat) (i : Int) (w : World) :
  Calls Tryz.prog 108 #[.agg (rowsA R), .int .i64 i] w fun e w' => e = .returned (.int .u64 ((seeTo R i 64 : Nat) : Int)) ∧ Below w.heap.size w w' := by
 have r0 : RelAt (w.alloc (.cells (rowsA R) 98)) w.heap.size 98 R := RelAt.made w _ _ rfl rfl
 have hb0 := box_below w (.cells (rowsA R) 98)
 go_enter Tryz.func108, Tryz.ntmps108
 go_wp2_with fail
 go_loopw [5, 7] (fun s k wr => ∃ n : Nat, n ≤ 64 ∧ k = .int .i64 n ∧ s = .int .u64 ((seeTo R i n : Nat) : Int) ∧ RelAt wr w.heap.size 98 R ∧ Below w.heap.size w wr) (fun _ k _ => 64 - (intOf k).toNat)
 case atStart => exact ⟨0, by omega, rfl, rfl, r0, hb0⟩
 case round =>
  obtain ⟨n, hn, rfl, rfl, hr, hb⟩ := hrel
  clear r0 hb0
  have hset := seeTo_set R i n
  by_cases hlt : n < 64
  ·have hni : (n : Int) < 64 := by omega
   have HS := hid (seeTo_succ R i n)
   go_wp2_with (with_reducible refine wpList_load_rel hr rfl _ rfl rfl ?_)
   refine (rhasR_any _ _ _ _).mono ?_
   rintro e w1 ⟨rfl, hb1⟩
   have hr1 := hr.below hb1 hr.lt
   have hbb := hb.trans (hb1.mono hb.size)
   clear hr hb
   cases hh : hasR R (n : Int) i with
   | true =>
    have HV : Hid (withS (seeTo R i n) (n : Int) = seeTo R i (n + 1)) := hid (by rw [HS.out, hh]; rfl)
    clear hh HS
    generalize seeTo R i n = a at *
    go_wp2_with fail
    refine (with_any _ _ _ hset).mono ?_
    rintro e w2 ⟨rfl, rfl⟩
    go_wp2_with fail
    go_roundw
    case rel => exact ⟨n + 1, by omega, by go_num, by rw [HV.out], hr1, hbb⟩
    case measure => simp [intOf]; omega
   | false =>
    have HV : Hid (seeTo R i n = seeTo R i (n + 1)) := hid (by rw [HS.out, hh]; rfl)
    clear hh HS
    go_wp2_with fail
    go_roundw
    case rel => exact ⟨n + 1, by omega, by go_num, by rw [HV.out], hr1, hbb⟩
    case measure => simp [intOf]; omega
  ·have hn2 : n = 64 := by omega
   subst hn2
   go_wp2_with fail
   go_ret
   exact ⟨rfl, hb⟩
end

section
open Go.RowKit
theorem perm_take (O L : List Nat) (j : Nat) (hj : j < L.length) : (O ++ [L[j]] ++ (L.take j ++ L.drop (j + 1))).Perm (O ++ L) := by
 have e : L = L.take j ++ L[j] :: L.drop (j + 1) := by rw [← List.drop_eq_getElem_cons hj, List.take_append_drop]
 have h1 : (L.take j ++ L[j] :: L.drop (j + 1)).Perm (L[j] :: (L.take j ++ L.drop (j + 1))) := List.perm_middle
 rw [← e] at h1
 rw [List.append_assoc, List.singleton_append]
 exact (h1.symm).append_left O
end

section
open Go.RowKit
theorem asees_any (R : Mat) (i : Int) (w : World) :
  Calls Tryz.prog 132 #[.agg (rowsA R), .int .i64 i] w fun e w' => e = .returned (.int .u64 ((seeTo R i 64 : Nat) : Int)) ∧ Below w.heap.size w w' := by
 have r0 : RelAt (w.alloc (.cells (rowsA R) 98)) w.heap.size 98 R := RelAt.made w _ _ rfl rfl
 have hb0 := box_below w (.cells (rowsA R) 98)
 go_enter Tryz.func132, Tryz.ntmps132
 go_wp2_with fail
 go_loopw [5, 7] (fun s k wr => ∃ n : Nat, n ≤ 64 ∧ k = .int .i64 n ∧ s = .int .u64 ((seeTo R i n : Nat) : Int) ∧ RelAt wr w.heap.size 98 R ∧ Below w.heap.size w wr) (fun _ k _ => 64 - (intOf k).toNat)
 case atStart => exact ⟨0, by omega, rfl, rfl, r0, hb0⟩
 case round =>
  obtain ⟨n, hn, rfl, rfl, hr, hb⟩ := hrel
  clear r0 hb0
  have hset := seeTo_set R i n
  by_cases hlt : n < 64
  ·have hni : (n : Int) < 64 := by omega
   have HS := hid (seeTo_succ R i n)
   go_wp2_with (with_reducible refine wpList_load_rel hr rfl _ rfl rfl ?_)
   refine (rhasR_any _ _ _ _).mono ?_
   rintro e w1 ⟨rfl, hb1⟩
   have hr1 := hr.below hb1 hr.lt
   have hbb := hb.trans (hb1.mono hb.size)
   clear hr hb
   cases hh : hasR R (n : Int) i with
   | true =>
    have HV : Hid (withS (seeTo R i n) (n : Int) = seeTo R i (n + 1)) := hid (by rw [HS.out, hh]; rfl)
    clear hh HS
    generalize seeTo R i n = a at *
    go_wp2_with fail
    refine (with_any _ _ _ hset).mono ?_
    rintro e w2 ⟨rfl, rfl⟩
    go_wp2_with fail
    go_roundw
    case rel => exact ⟨n + 1, by omega, by go_num, by rw [HV.out], hr1, hbb⟩
    case measure => simp [intOf]; omega
   | false =>
    have HV : Hid (seeTo R i n = seeTo R i (n + 1)) := hid (by rw [HS.out, hh]; rfl)
    clear hh HS
    go_wp2_with fail
    go_roundw
    case rel => exact ⟨n + 1, by omega, by go_num, by rw [HV.out], hr1, hbb⟩
    case measure => simp [intOf]; omega
  ·have hn2 : n = 64 := by omega
   subst hn2
   go_wp2_with fail
   go_ret
   exact ⟨rfl, hb⟩
theorem arivals_any (A : Mat) (h : List TxnV) (B b : Nat) (w : World) (hO : OrdIs w B b h) (hc : checkI h = 0) :
  Calls Tryz.prog 156 #[.pointer (some ⟨B, 0, none⟩), .agg (rowsA A)] w fun e w' => e = .returned (.agg (rowsA (rivM h A))) ∧ Below w.heap.size w w' := by
 have CRH := hid (fun (i : Nat) wx (hx : Below w.heap.size w wx) => ordis_rivals (hO.below hx) hc i)
 have e0 : rowsA A = rowsA (rivTo h A 0) := rowsA_congr fun i j _ _ => by unfold rivTo; rw [if_neg (by omega)]
 have r0 : RelAt (w.alloc (.cells (rowsA A) 98)) w.heap.size 98 (rivTo h A 0) := RelAt.made w _ _ rfl e0
 have z0 := zero_block (w.alloc (.cells (rowsA A) 98))
 rw [show (w.alloc (.cells (rowsA A) 98)).heap.size = w.heap.size + 1 from by simp] at z0
 have r0 := r0.alloc (.cells Z64 98)
 have hb0 := (box_below w (.cells (rowsA A) 98)).alloc (by simp) (.cells Z64 98)
 clear hO hc e0
 go_enter Tryz.func156, Tryz.ntmps156
 go_wp2_with fail
 go_loopw [6] (fun i wr => ∃ k : Nat, k ≤ 64 ∧ i = .int .i64 k ∧ RelAt wr w.heap.size 98 (rivTo h A k) ∧ RelAt wr (w.heap.size + 1) 98 noR ∧ Below w.heap.size w wr) (fun i _ => 64 - (intOf i).toNat)
 case atStart => exact ⟨0, by omega, rfl, r0, z0, hb0⟩
 case round =>
  obtain ⟨k, hk, rfl, hR, hz, hb⟩ := hrel
  clear r0 z0 hb0
  by_cases hlt : k < 64
  ·have hki : (k : Int) < 64 := by omega
   have hda : decide ((k : Int) < 64) = true := decide_eq_true hki
   have kd := (Below.refl wr.heap.size wr).drew
   have HAND : Go.bits .and .u64 ((mkS (rivTo h A k k) : Nat) : Int) ((rivN h k : Nat) : Int) = ((mkS (fun j => A k j && rivB h k j) : Nat) : Int) := by rw [rivTo_at]; exact u64_and _ _
   have HR : Hid (∀ wx, Below wr.heap.size wr wx → RelAt wx w.heap.size 98 (rivTo h A k)) := hid (fun wx hx => hR.below hx hR.lt)
   have CR := hid (fun wx (hx : Below wr.heap.size wr wx) => CRH.out k wx (hb.trans (hx.mono hb.size)))
   have HS : Hid (∀ wx, Below wr.heap.size wr wx → True) := hid (fun _ _ => trivial)
   have HN : Hid (∀ wx, Below wr.heap.size wr wx → RelAt (wx.setCell ⟨w.heap.size, k, none⟩ (.int .u64 ((mkS (fun j => A k j && rivB h k j) : Nat) : Int))) w.heap.size 98 (rivTo h A (k + 1))) := hid (fun wx hx => by
    have := (hR.below hx hR.lt).store k _ (fun j => A k j && rivB h k j) rfl
    rwa [rivTo_step] at this)
   have HBS : Hid (∀ wx, Below wr.heap.size wr wx → Below w.heap.size w (wx.setCell ⟨w.heap.size, k, none⟩ (.int .u64 ((mkS (fun j => A k j && rivB h k j) : Nat) : Int)))) := hid (fun wx hx => (hb.trans (hx.mono hb.size)).setCell (p := ⟨w.heap.size, k, none⟩) (Nat.le_refl _) _)
   have HZS : Hid (∀ wx, Below wr.heap.size wr wx → RelAt (wx.setCell ⟨w.heap.size, k, none⟩ (.int .u64 ((mkS (fun j => A k j && rivB h k j) : Nat) : Int))) (w.heap.size + 1) 98 noR) := hid (fun wx hx => (hz.below hx hz.lt).other (k := ⟨w.heap.size, k, none⟩) (by simp) _)
   clear hR hz hb CRH
   generalize mkS (fun j => A k j && rivB h k j) = z at *
   generalize rivN h k = y at *
   go_wp2_with fail
   refine wp_region_held_drew (S := fun _ => True) (by kernel_rfl) trivial (fun hS0 => ?_)
   refine tG (some 9) 0 ?v0 rfl rfl (Or.inl ⟨by rfl, ?h0⟩) hS0 ?r0
   case h0 => (intro w hw; go_simp; try (with_reducible rfl))
   try simp only [Act.put, zA, zB, zC]
   refine tG (some 10) 1 ?v1 rfl rfl (Or.inl ⟨by rfl, ?h1⟩) hS0 ?r1
   case h1 => (intro w hw; go_simp; try (with_reducible rfl))
   try simp only [Act.put, zA, zB, zC]
   refine tG (some 12) 3 ?v3 rfl rfl (Or.inl ⟨by rfl, ?h3⟩) hS0 ?r3
   case h3 => (intro w hw; go_simp; try (with_reducible rfl))
   try simp only [Act.put, zA, zB, zC]
   refine tG (some 13) 4 ?v4 rfl rfl (Or.inl ⟨by rfl, ?h4⟩) hS0 ?r4
   case h4 => (intro w hw; go_simp; try (with_reducible rfl))
   try simp only [Act.put, zA, zB, zC]
   refine wpAnyH_ready (rs := [2, 5]) (by kernel_rfl) (by simp) ?_
   refine AllReadyH.cons rfl (fun K hK => ?_) (AllReadyH.cons rfl (fun K hK => ?_) AllReadyH.nil)
   ·
    have hc2 := (HR.out _ kd).cell hlt
    go_simp
    refine hK.out _ _ hS0 (fun _ => ?_)
    clear hK K hc2
    refine rD 5 rfl (fun K hK => ?_)
    go_simp
    refine (CR.out _ kd).mono ?_
    rintro e q1 ⟨rfl, hq1⟩
    show K _ _
    have k1 := below_then kd hq1
    have s1 := HS.out _ k1
    refine hK.out _ _ s1 (fun _ => ?_)
    clear hK K
    refine rD 6 rfl (fun K hK => ?_)
    go_simp
    refine hK.out _ _ s1 (fun _ => ?_)
    clear hK K
    refine rD 7 rfl (fun K hK => ?_)
    go_simp
    refine hK.out _ _ s1 (fun _ => ?_)
    clear hK K
    refine rD 8 rfl (fun K hK => ?_)
    have hc8 := (HR.out _ k1).cell hlt
    have hf8 := (HR.out _ k1).free k
    go_simp
    refine hK.out _ _ trivial (fun _ => ?_)
    clear hK K hc8 hf8
    refine wpAnyH_done (by kernel_rfl) ?_ _
    have hR9 := HN.out _ k1
    have hb9 := HBS.out _ k1
    have hz9 := HZS.out _ k1
    clear HR CR HN HBS HZS HS kd
    go_wp2_with fail
    go_roundw
    case rel => exact ⟨k + 1, by omega, by go_num, hR9, hz9, hb9⟩
    case measure => simp [intOf]; omega
   ·
    go_simp
    refine (CR.out _ kd).mono ?_
    rintro e q2 ⟨rfl, hq2⟩
    show K _ _
    have k2 := below_then kd hq2
    have s2 := HS.out _ k2
    refine hK.out _ _ s2 (fun _ => ?_)
    clear hK K
    refine rD 2 rfl (fun K hK => ?_)
    have hc2 := (HR.out _ k2).cell hlt
    go_simp
    refine hK.out _ _ s2 (fun _ => ?_)
    clear hK K hc2
    refine rD 6 rfl (fun K hK => ?_)
    go_simp
    refine hK.out _ _ s2 (fun _ => ?_)
    clear hK K
    refine rD 7 rfl (fun K hK => ?_)
    go_simp
    refine hK.out _ _ s2 (fun _ => ?_)
    clear hK K
    refine rD 8 rfl (fun K hK => ?_)
    have hc8 := (HR.out _ k2).cell hlt
    have hf8 := (HR.out _ k2).free k
    go_simp
    refine hK.out _ _ trivial (fun _ => ?_)
    clear hK K hc8 hf8
    refine wpAnyH_done (by kernel_rfl) ?_ _
    have hR9 := HN.out _ k2
    have hb9 := HBS.out _ k2
    have hz9 := HZS.out _ k2
    clear HR CR HN HBS HZS HS kd
    go_wp2_with fail
    go_roundw
    case rel => exact ⟨k + 1, by omega, by go_num, hR9, hz9, hb9⟩
    case measure => simp [intOf]; omega
  ·have hk64 : k = 64 := by omega
   subst hk64
   go_wp2_with (first
    | (with_reducible refine wpList_load_rel hR rfl _ rfl rfl ?_)
    | (with_reducible refine wpList_store_rel hz (rivTo h A 64) rfl _ _ rfl rfl rfl ?_))
   have h3 := hz.setRow (rivTo h A 64)
   rw [rivTo_end] at h3
   exact bodyPost_ret (results_rel rfl _ _ _ _ rfl h3) rfl ⟨rfl, below_setRow hb (by omega) _⟩
def lastTo (l : List Int) (s : Nat) (k : Nat) : Int := (l.take k).foldl (fun f i => if hasB s i then i else f) (-1)
theorem lastTo_succ (l : List Int) (s k : Nat) (hk : k < l.length) : lastTo l s (k + 1) = if hasB s l[k] then l[k] else lastTo l s k := by
 unfold lastTo; rw [List.take_succ_eq_append_getElem hk, List.foldl_append]; rfl
def lastI (l : List Int) (s : Nat) : Int := lastTo l s l.length
theorem alast_any (va : Value) (l : List Int) (s : Nat) (w : World) (hs : IsSet s) (hl : Ints w va l) :
  Calls Tryz.prog 154 #[va, .int .u64 (s : Int)] w fun e w' => e = .returned (.int .i64 (lastI l s)) ∧ Below w.heap.size w w' := by
 have HL := hid (fun wx (hx : Below w.heap.size w wx) => hl.below hx)
 obtain ⟨ao, cap, rfl, hal⟩ := hl.form
 have HR : Hid (lastI l s = lastTo l s l.length) := hid rfl
 clear hl
 go_enter Tryz.func154, Tryz.ntmps154
 go_wp2_with fail
 go_loopw [5, 10] (fun f i wr => ∃ k : Nat, k ≤ l.length ∧ i = .int .i64 k ∧ f = .int .i64 (lastTo l s k) ∧ Below w.heap.size w wr) (fun _ i _ => l.length - (intOf i).toNat)
 case atStart => exact ⟨0, by omega, rfl, rfl, Below.refl _ _⟩
 case round =>
  obtain ⟨k, hk, rfl, rfl, hb⟩ := hrel
  by_cases hlt : k < l.length
  ·have hki : (k : Int) < (l.length : Int) := by omega
   obtain ⟨g, o, hao, e0⟩ := (HL.out _ hb).at hlt
   cases hao
   have HN := hid (lastTo_succ l s k hlt)
   generalize l[k] = x at *
   generalize lastTo l s k = y at *
   go_wp2_with fail
   refine (has_any _ _ _ hs).mono ?_
   rintro e w1 ⟨rfl, rfl⟩
   cases hh : hasB s x with
   | true =>
    have HV : Hid (x = lastTo l s (k + 1)) := hid (by rw [HN.out, hh]; rfl)
    clear hh HN
    go_wp2_with fail
    go_roundw
    case rel => exact ⟨k + 1, by omega, by go_num, by rw [← HV.out], hb⟩
    case measure => simp [intOf]; omega
   | false =>
    have HV : Hid (y = lastTo l s (k + 1)) := hid (by rw [HN.out, hh]; rfl)
    clear hh HN
    go_wp2_with fail
    go_roundw
    case rel => exact ⟨k + 1, by omega, by go_num, by rw [← HV.out], hb⟩
    case measure => simp [intOf]; omega
  ·have hk2 : k = l.length := by omega
   subst hk2
   go_wp2_with fail
   go_ret
   exact ⟨rfl, hb⟩
def rowOkA (n : Int) (l : List Int) : Bool := decide ((l.length : Int) = n) && decide (setL l = belowS n)
theorem arow_any (n : Int) (va : Value) (l : List Int) (w : World) (hl : Ints w va l) :
  Calls Tryz.prog 129 #[.int .i64 n, va] w fun e w' => e = .returned (.bool (rowOkA n l)) ∧ w = w' := by
 have CO := hid (of_any va l w hl)
 have CB := hid (below_any n w)
 obtain ⟨ao, cap, rfl, hal⟩ := hl.form
 have HR : Hid (rowOkA n l = (decide ((l.length : Int) = n) && decide (setL l = belowS n))) := hid rfl
 generalize rowOkA n l = r at *
 generalize setL l = a at *
 generalize belowS n = b at *
 clear hl
 by_cases hn : (l.length : Int) = n
 ·by_cases hab : a = b
  ·have HV : Hid (true = r) := hid (by rw [HR.out, decide_eq_true hn, decide_eq_true hab]; rfl)
   subst hab
   clear HR
   go_enter Tryz.func129, Tryz.ntmps129
   go_wp2_with fail
   refine (CO.out).mono ?_
   rintro e w1 ⟨rfl, rfl⟩
   go_wp2_with fail
   refine (CB.out).mono ?_
   rintro e w1 ⟨rfl, rfl⟩
   go_wp2_with fail
   go_ret
   exact ⟨ret_b HV.out, rfl⟩
  ·have HV : Hid (((a : Int) == (b : Int)) = r) := hid (by rw [HR.out, decide_eq_true hn, decide_eq_false hab, beq_eq_false_iff_ne.2 (fun e => hab (by omega))]; rfl)
   clear HR
   go_enter Tryz.func129, Tryz.ntmps129
   go_wp2_with fail
   refine (CO.out).mono ?_
   rintro e w1 ⟨rfl, rfl⟩
   go_wp2_with fail
   refine (CB.out).mono ?_
   rintro e w1 ⟨rfl, rfl⟩
   go_wp2_with fail
   go_ret
   exact ⟨ret_b HV.out, rfl⟩
 ·have HV : Hid (false = r) := hid (by rw [HR.out, decide_eq_false hn]; rfl)
  clear HR
  go_enter Tryz.func129, Tryz.ntmps129
  go_wp2_with fail
  go_ret
  exact ⟨ret_b HV.out, rfl⟩
end

section
open Go.RowKit
def wrtN (h : List TxnV) (y : Int) : Nat := mkS fun j => decide (j < h.length) && decide (y ∈ keysOf (opsAt h j))
theorem wrtN_set (h : List TxnV) (y : Int) : IsSet (wrtN h y) := isSet_mkS _
theorem wrt_eq {h : List TxnV} {K : List KRow} (hc : checkI h = 0) (hK : K.map (·.2) = keysTo h h.length) (hA : AllSet (wrsTo K K.length)) (y : Int) : (wrsTo K K.length y).getD 0 = wrtN h y := by
 have hl := keys_len hK
 have h64 := (check_zero hc).1
 refine mkS_eq (hA y) fun j hj => ?_
 rw [wrsTo_bit K j y K.length (by omega) (Nat.le_refl _), hl]
 by_cases hjn : j < h.length
 ·rw [keys_at hK hjn]
 ·simp [hjn]
theorem reads_key {h : List TxnV} (hc : checkI h = 0) {i : Nat} (hi : i < h.length) {r : Int × Int} (hr : r ∈ readsOf h i) : 0 ≤ r.1 ∧ r.1 < 64 := by
 obtain ⟨_, _, _, hks⟩ := check_zero hc
 unfold readsOf rdFr at hr
 obtain ⟨o, ho, rfl⟩ := List.mem_map.1 hr
 have h1 := (refReads_in (List.mem_filter.1 ho).1).1
 rw [opsAt_eq hi] at h1
 exact hks _ (List.getElem_mem hi) o h1
def readOk (h : List TxnV) (l : List Int) (V : Mat) (i : Nat) (r : Int × Int) : Bool := decide (lastI l (seeTo V (i : Int) 64 &&& wrtN h r.1) = r.2)
def readsOk (h : List TxnV) (l : List Int) (V : Mat) (i k : Nat) : Bool := ((readsOf h i).take k).all (readOk h l V i)
def rightTo (h : List TxnV) (l : List Int) (V : Mat) (k : Nat) : Bool := (List.range k).all fun i => (readsOf h i).all (readOk h l V i)
def rightM (h : List TxnV) (l : List Int) (V : Mat) : Bool := rowOkA (h.length : Int) l && (inM V (chainR l) && rightTo h l V h.length)
theorem readsOk_no {h : List TxnV} {l : List Int} {V : Mat} {i k : Nat} (hi : i < h.length) (hk : k < (readsOf h i).length) (hn : readOk h l V i (readsOf h i)[k] = false) : rightTo h l V h.length = false := by
 unfold rightTo
 rw [List.all_eq_false]
 refine ⟨i, List.mem_range.2 hi, ?_⟩
 rw [Bool.not_eq_true, List.all_eq_false]
 exact ⟨_, List.getElem_mem hk, by rw [hn]; simp⟩
theorem readsOk_succ {h : List TxnV} {l : List Int} {V : Mat} {i k : Nat} (hk : k < (readsOf h i).length) (hy : readOk h l V i (readsOf h i)[k] = true) (hp : readsOk h l V i k = true) : readsOk h l V i (k + 1) = true := by
 unfold readsOk at *
 rw [List.take_succ_eq_append_getElem hk, List.all_append, hp]
 simp [hy]
theorem rightTo_succ {h : List TxnV} {l : List Int} {V : Mat} {k : Nat} (hp : rightTo h l V k = true) (hy : readsOk h l V k (readsOf h k).length = true) : rightTo h l V (k + 1) = true := by
 unfold rightTo readsOk at *
 rw [List.take_length] at hy
 rw [List.range_succ, List.all_append, hp]
 simpa using hy
def RdS (B bm q : Nat) (rk rf : Int) (x : Nat) (w : World) : Prop := w.cell? ⟨B, 193, none⟩ = some (.map (some bm)) ∧ w.cell? ⟨q, 0, none⟩ = some (.int .i64 rk) ∧ w.cell? ⟨q, 1, none⟩ = some (.int .i64 rf) ∧
 Sem.run Tryz.prog (Instr.lookup 99 (.map (some bm)) (.int .i64 rk) false) w = .ok (.int .u64 (x : Int)) w
theorem aright_any (va : Value) (l : List Int) (V : Mat) (h : List TxnV) (B b : Nat) (w : World) (hO : OrdIs w B b h) (hc : checkI h = 0) (hl : Ints w va l) :
  Calls Tryz.prog 120 #[.pointer (some ⟨B, 0, none⟩), va, .agg (rowsA V)] w fun e w' => e = .returned (.bool (rightM h l V)) ∧ Below w.heap.size w w' := by
 have HR : Hid (rightM h l V = (rowOkA (h.length : Int) l && (inM V (chainR l) && rightTo h l V h.length))) := hid rfl
 have HC := hid hc
 obtain ⟨ao, cap, rfl, hal⟩ := hl.form
 have r0 : RelAt (w.alloc (.cells (rowsA V) 98)) w.heap.size 98 V := RelAt.made w _ _ rfl rfl
 have hb0 := box_below w (.cells (rowsA V) 98)
 have HO := hid (fun wx (hx : Below w.heap.size w wx) => hO.below hx)
 have HL := hid (fun wx (hx : Below w.heap.size w wx) => hl.below hx)
 clear hO hc hl
 go_enter Tryz.func120, Tryz.ntmps120
 go_upto_region 1 with fail
 generalize w.alloc (.cells (rowsA V) 98) = w0 at *
 have HB := hid (fun wx (hx : Below w0.heap.size w0 wx) => hb0.trans (hx.mono hb0.size))
 have HS : Hid (∀ wx, Below w0.heap.size w0 wx → OrdB wx B h ∧ RelAt wx w.heap.size 98 V) := hid (fun wx hx => ⟨(HO.out wx (hb0.trans (hx.mono hb0.size))).blk, r0.below hx r0.lt⟩)
 have CR := hid (fun wx (hx : Below w0.heap.size w0 wx) => arow_any (h.length : Int) _ l wx (HL.out wx (hb0.trans (hx.mono hb0.size))))
 have CC := hid (fun wx (hx : Below w0.heap.size w0 wx) => chain_any _ l wx (HL.out wx (hb0.trans (hx.mono hb0.size))))
 have CW := hid (fun wx => withinR_any V (chainR l) wx)
 have kd := (Below.refl w0.heap.size w0).drew
 clear r0 hb0
 cases hrow : rowOkA (h.length : Int) l with
 | false =>
  have HV : Hid (false = rightM h l V) := hid (by rw [HR.out, hrow]; rfl)
  rw [hrow] at CR
  clear hrow HR
  refine wp_region_held_drew (S := fun wx => OrdB wx B h ∧ RelAt wx w.heap.size 98 V) (by kernel_rfl) (HS.out _ kd) (fun hS0 => ?_)
  refine tG (some 12) 0 ?ve0 rfl rfl (Or.inl ⟨by rfl, ?he0⟩) hS0 ?re0
  case he0 => (intro w hw; have hn := hw.1.cN; go_simp; try (with_reducible rfl))
  try simp only [Act.put, zA, zB, zC]
  refine tG (some 13) 1 ?ve1 rfl rfl (Or.inl ⟨by rfl, ?he1⟩) hS0 ?re1
  case he1 => (intro w hw; have hn := hw.1.cN; go_simp; try (with_reducible rfl))
  try simp only [Act.put, zA, zB, zC]
  refine tG (some 14) 2 ?ve2 rfl rfl (Or.inl ⟨by rfl, ?he2⟩) hS0 ?re2
  case he2 => (intro w hw; have hn := hw.1.cN; go_simp; try (with_reducible rfl))
  try simp only [Act.put, zA, zB, zC]
  refine tG (some 15) 3 ?ve3 rfl rfl (Or.inl ⟨by rfl, ?he3⟩) hS0 ?re3
  case he3 => (intro w hw; have hn := hw.1.cN; go_simp; try (with_reducible rfl))
  try simp only [Act.put, zA, zB, zC]
  refine tG (some 16) 4 ?ve4 rfl rfl (Or.inl ⟨by rfl, ?he4⟩) hS0 ?re4
  case he4 => (intro w hw; have hn := hw.1.cN; go_simp; try (with_reducible rfl))
  try simp only [Act.put, zA, zB, zC]
  refine rD 5 rfl (fun K hK => ?_)
  go_simp
  refine (CR.out _ kd).mono ?_
  rintro e q1 ⟨rfl, rfl⟩
  show K _ _
  refine hK.out _ _ hS0 (fun _ => ?_)
  clear hK K
  refine tA (some 18) 6 rfl rfl hS0 ?_
  try simp only [Act.put, zA, zB, zC]
  refine tA (some 19) 7 rfl rfl hS0 ?_
  try simp only [Act.put, zA, zB, zC]
  refine tG (some 20) 8 undef rfl rfl (Or.inr ⟨by rfl, rfl⟩) hS0 ?_
  try simp only [Act.put, zA, zB, zC]
  refine tG (some 21) 9 undef rfl rfl (Or.inr ⟨by rfl, rfl⟩) hS0 ?_
  try simp only [Act.put, zA, zB, zC]
  refine tG (some 22) 10 undef rfl rfl (Or.inr ⟨by rfl, rfl⟩) hS0 ?_
  try simp only [Act.put, zA, zB, zC]
  refine tG (some 23) 11 undef rfl rfl (Or.inr ⟨by rfl, rfl⟩) hS0 ?_
  try simp only [Act.put, zA, zB, zC]
  refine tG (some 24) 12 undef rfl rfl (Or.inr ⟨by rfl, rfl⟩) hS0 ?_
  try simp only [Act.put, zA, zB, zC]
  refine tA (some 25) 13 rfl rfl hS0 ?_
  try simp only [Act.put, zA, zB, zC]
  refine wpAnyH_done (by kernel_rfl) ?_ _
  go_wp2_with fail
  go_ret
  exact ⟨ret_b HV.out, HB.out _ kd⟩
 | true =>
  rw [hrow] at CR
  cases hin : inM V (chainR l) with
  | false =>
   have HV : Hid (false = rightM h l V) := hid (by rw [HR.out, hrow, hin]; rfl)
   rw [hin] at CW
   clear hrow hin HR
   refine wp_region_held_drew (S := fun wx => OrdB wx B h ∧ RelAt wx w.heap.size 98 V) (by kernel_rfl) (HS.out _ kd) (fun hS0 => ?_)
   refine tG (some 12) 0 ?vf0 rfl rfl (Or.inl ⟨by rfl, ?hf0⟩) hS0 ?rf0
   case hf0 => (intro w hw; have hn := hw.1.cN; go_simp; try (with_reducible rfl))
   try simp only [Act.put, zA, zB, zC]
   refine tG (some 13) 1 ?vf1 rfl rfl (Or.inl ⟨by rfl, ?hf1⟩) hS0 ?rf1
   case hf1 => (intro w hw; have hn := hw.1.cN; go_simp; try (with_reducible rfl))
   try simp only [Act.put, zA, zB, zC]
   refine tG (some 14) 2 ?vf2 rfl rfl (Or.inl ⟨by rfl, ?hf2⟩) hS0 ?rf2
   case hf2 => (intro w hw; have hn := hw.1.cN; go_simp; try (with_reducible rfl))
   try simp only [Act.put, zA, zB, zC]
   refine tG (some 15) 3 ?vf3 rfl rfl (Or.inl ⟨by rfl, ?hf3⟩) hS0 ?rf3
   case hf3 => (intro w hw; have hn := hw.1.cN; go_simp; try (with_reducible rfl))
   try simp only [Act.put, zA, zB, zC]
   refine tG (some 16) 4 ?vf4 rfl rfl (Or.inl ⟨by rfl, ?hf4⟩) hS0 ?rf4
   case hf4 => (intro w hw; have hn := hw.1.cN; go_simp; try (with_reducible rfl))
   try simp only [Act.put, zA, zB, zC]
   refine rD 5 rfl (fun K hK => ?_)
   go_simp
   refine (CR.out _ kd).mono ?_
   rintro e q1 ⟨rfl, rfl⟩
   show K _ _
   refine hK.out _ _ hS0 (fun _ => ?_)
   clear hK K
   refine tA (some 18) 6 rfl rfl hS0 ?_
   try simp only [Act.put, zA, zB, zC]
   refine tA (some 19) 7 rfl rfl hS0 ?_
   try simp only [Act.put, zA, zB, zC]
   refine tG (some 20) 8 _ rfl rfl (yields_rel (by rfl) _ rfl rfl (fun wx hx => hx.2)) hS0 ?_
   try simp only [Act.put, zA, zB, zC]
   refine tA (some 21) 9 rfl rfl hS0 ?_
   try simp only [Act.put, zA, zB, zC]
   refine rD 10 rfl (fun K hK => ?_)
   go_simp
   refine (CC.out _ kd).mono ?_
   rintro e q2 ⟨rfl, hq2⟩
   show K _ _
   have k2 := below_then kd hq2
   have s2 := HS.out _ k2
   refine hK.out _ _ s2 (fun _ => ?_)
   clear hK K
   refine rD 11 rfl (fun K hK => ?_)
   go_simp
   refine (CW.out q2).mono ?_
   rintro e q3 ⟨rfl, hq3⟩
   show K _ _
   have k3 := below_then k2 hq3
   have s3 := HS.out _ k3
   refine hK.out _ _ s3 (fun _ => ?_)
   clear hK K
   refine tA (some 24) 12 rfl rfl s3 ?_
   try simp only [Act.put, zA, zB, zC]
   refine tA (some 25) 13 rfl rfl s3 ?_
   try simp only [Act.put, zA, zB, zC]
   refine wpAnyH_done (by kernel_rfl) ?_ _
   go_wp2_with fail
   go_ret
   exact ⟨ret_b HV.out, HB.out _ k3⟩
  | true =>
  have HV : Hid (rightM h l V = rightTo h l V h.length) := hid (by rw [HR.out, hrow, hin]; rfl)
  rw [hin] at CW
  clear hrow hin HR
  refine wp_region_held_drew (S := fun wx => OrdB wx B h ∧ RelAt wx w.heap.size 98 V) (by kernel_rfl) (HS.out _ kd) (fun hS0 => ?_)
  refine tG (some 12) 0 ?vg0 rfl rfl (Or.inl ⟨by rfl, ?hg0⟩) hS0 ?rg0
  case hg0 => (intro w hw; have hn := hw.1.cN; go_simp; try (with_reducible rfl))
  try simp only [Act.put, zA, zB, zC]
  refine tG (some 13) 1 ?vg1 rfl rfl (Or.inl ⟨by rfl, ?hg1⟩) hS0 ?rg1
  case hg1 => (intro w hw; have hn := hw.1.cN; go_simp; try (with_reducible rfl))
  try simp only [Act.put, zA, zB, zC]
  refine tG (some 14) 2 ?vg2 rfl rfl (Or.inl ⟨by rfl, ?hg2⟩) hS0 ?rg2
  case hg2 => (intro w hw; have hn := hw.1.cN; go_simp; try (with_reducible rfl))
  try simp only [Act.put, zA, zB, zC]
  refine tG (some 15) 3 ?vg3 rfl rfl (Or.inl ⟨by rfl, ?hg3⟩) hS0 ?rg3
  case hg3 => (intro w hw; have hn := hw.1.cN; go_simp; try (with_reducible rfl))
  try simp only [Act.put, zA, zB, zC]
  refine tG (some 16) 4 ?vg4 rfl rfl (Or.inl ⟨by rfl, ?hg4⟩) hS0 ?rg4
  case hg4 => (intro w hw; have hn := hw.1.cN; go_simp; try (with_reducible rfl))
  try simp only [Act.put, zA, zB, zC]
  refine rD 5 rfl (fun K hK => ?_)
  go_simp
  refine (CR.out _ kd).mono ?_
  rintro e q1 ⟨rfl, rfl⟩
  show K _ _
  refine hK.out _ _ hS0 (fun _ => ?_)
  clear hK K
  refine tA (some 18) 6 rfl rfl hS0 ?_
  try simp only [Act.put, zA, zB, zC]
  refine tA (some 19) 7 rfl rfl hS0 ?_
  try simp only [Act.put, zA, zB, zC]
  refine tG (some 20) 8 _ rfl rfl (yields_rel (by rfl) _ rfl rfl (fun wx hx => hx.2)) hS0 ?_
  try simp only [Act.put, zA, zB, zC]
  refine tA (some 21) 9 rfl rfl hS0 ?_
  try simp only [Act.put, zA, zB, zC]
  refine rD 10 rfl (fun K hK => ?_)
  go_simp
  refine (CC.out _ kd).mono ?_
  rintro e q2 ⟨rfl, hq2⟩
  show K _ _
  have k2 := below_then kd hq2
  have s2 := HS.out _ k2
  refine hK.out _ _ s2 (fun _ => ?_)
  clear hK K
  refine rD 11 rfl (fun K hK => ?_)
  go_simp
  refine (CW.out q2).mono ?_
  rintro e q3 ⟨rfl, hq3⟩
  show K _ _
  have k3 := below_then k2 hq3
  have s3 := HS.out _ k3
  refine hK.out _ _ s3 (fun _ => ?_)
  clear hK K
  refine tA (some 24) 12 rfl rfl s3 ?_
  try simp only [Act.put, zA, zB, zC]
  refine tA (some 25) 13 rfl rfl s3 ?_
  try simp only [Act.put, zA, zB, zC]
  refine wpAnyH_done (by kernel_rfl) ?_ _
  have hO3 := HO.out _ (HB.out _ k3)
  have hRV := s3.2
  have hb3 := HB.out _ k3
  clear kd hS0 k2 s2 s3 k3 CR CC CW HS HB hq2 hq3
  obtain ⟨bm, mm, mc, vk, vr, KK, RR, h1, h2, h3, h4, h5, h6⟩ := hO3
  have hlR : RR.length = h.length := by have := congrArg List.length h6; simpa [readsTo] using this
  have HLR := hid hlR
  have HAT : Hid (∀ i (hi : i < RR.length), RR[i].2 = readsOf h i) := hid (fun i hi => by
   have := congrArg (·[i]?) h6
   simp only [List.getElem?_map, List.getElem?_eq_getElem hi, readsTo, List.getElem?_range (show i < h.length by omega), Option.map_some] at this
   exact Option.some.inj this)
  obtain ⟨ar, cr, rfl⟩ := h4.frws.form
  have hF := h4.frws
  have HFR := hid (fun wx (hx : Below q3.heap.size q3 wx) => hF.below hx)
  have HM := hid (fun wx (hx : Below q3.heap.size q3 wx) => h2.below hx)
  have HOA := hid (fun wx (hx : Below q3.heap.size q3 wx) => h1.below hx h1.lt)
  have HRV := hid (fun wx (hx : Below q3.heap.size q3 wx) => hRV.below hx hRV.lt)
  have HL3 := hid (fun wx (hx : Below q3.heap.size q3 wx) => HL.out wx (hb3.trans (hx.mono hb3.size)))
  have HB3 := hid (fun wx (hx : Below q3.heap.size q3 wx) => hb3.trans (hx.mono hb3.size))
  have HWR : Hid (∀ y, (wrsTo KK KK.length y).getD 0 = wrtN h y) := hid (wrt_eq HC.out h5 h3)
  have c3 := h1.cR
  clear h1 h2 h3 h4 h5 h6 hF hRV hb3 hlR HO HL
  go_wp2_with fail
  clear c3
  go_loopw [31] (fun i wr => ∃ k : Nat, k ≤ RR.length ∧ i = .int .i64 k ∧ rightTo h l V k = true ∧ Below q3.heap.size q3 wr) (fun i _ => RR.length - (intOf i).toNat)
  case atStart => exact ⟨0, by omega, rfl, rfl, Below.refl _ _⟩
  case round =>
   obtain ⟨i, hi, rfl, hrt, hb⟩ := hrel
   have HRT := hid hrt
   clear hrt
   by_cases hlt : i < RR.length
   ·have hki : (i : Int) < (RR.length : Int) := by omega
    have hih : i < h.length := by have := HLR.out; omega
    have hi64 : (i : Int) < 64 := by have := (check_zero HC.out).1; omega
    obtain ⟨g, o, hao, c0, hfr⟩ := (HFR.out _ hb).at hlt
    cases hao
    rw [HAT.out i hlt] at hfr
    have HFI := hid (fun wx (hx : Below wr.heap.size wr wx) => hfr.below hx)
    obtain ⟨ai, ci, hvi, hri⟩ := hfr.form
    rw [hvi] at c0 HFI
    clear hvi hfr
    have y0 := HRV.out _ hb
    go_wp2_with (with_reducible refine wpList_load_rel y0 rfl _ rfl rfl ?_)
    refine (asees_any V (i : Int) _).mono ?_
    rintro e w1 ⟨rfl, hb1⟩
    have hbi := below_then hb hb1
    have HF1 := hid (fun wx (hx : Below w1.heap.size w1 wx) => HFI.out wx (below_then hb1 hx))
    have hset := seeTo_set V (i : Int) 64
    clear y0 c0 HFI hb1
    have HSN : Hid (∃ sn, sn = seeTo V (i : Int) 64) := hid ⟨_, rfl⟩
    obtain ⟨sn, hsn⟩ := HSN.out
    rw [← hsn] at hset ⊢
    have HSN := hid hsn
    clear hsn
    have hb1 := Below.refl w1.heap.size w1
    go_wp2_with fail
    go_loopw [41] (fun j wx => ∃ k : Nat, k ≤ (readsOf h i).length ∧ j = .int .i64 k ∧ readsOk h l V i k = true ∧ Below w1.heap.size w1 wx) (fun j _ => (readsOf h i).length - (intOf j).toNat)
    case atStart => exact ⟨0, by omega, rfl, rfl, hb1⟩
    case round =>
     obtain ⟨k, hk, rfl, hro, hbk⟩ := hrel
     have HRO := hid hro
     clear hro hb1
     by_cases hlk : k < (readsOf h i).length
     ·have hkk : (k : Int) < ((readsOf h i).length : Int) := by omega
      obtain ⟨gk, ok, hao, e0, e1⟩ := (HF1.out _ hbk).at hlk
      cases hao
      have hkey := reads_key HC.out hih (List.getElem_mem hlk)
      have HRD : Hid (readOk h l V i (readsOf h i)[k] = decide (lastI l (sn &&& wrtN h (readsOf h i)[k].1) = (readsOf h i)[k].2)) := hid (by rw [HSN.out]; rfl)
      have HNO := hid (fun hn => readsOk_no (l := l) (V := V) hih hlk hn)
      have HYE := hid (fun hy => readsOk_succ (l := l) (V := V) hlk hy HRO.out)
      generalize readOk h l V i (readsOf h i)[k] = rb at *
      generalize (readsOf h i)[k] = rr at *
      obtain ⟨rk, rf⟩ := rr
      simp only at e0 e1 hkey HRD
      have hkI : InI rk := inI_of (by unfold IntOk; omega)
      have hbq := hbk.alloc hbk.size (.cells #[.int .i64 rk, .int .i64 rf] 111)
      have hbq3 := below_then hbi hbk
      have hbq4 := hbq3.alloc hbq3.size (.cells #[.int .i64 rk, .int .i64 rf] 111)
      obtain ⟨d0, d1⟩ : (wr.alloc (.cells #[.int .i64 rk, .int .i64 rf] 111)).cell? ⟨wr.heap.size, 0, none⟩ = some (.int .i64 rk) ∧ (wr.alloc (.cells #[.int .i64 rk, .int .i64 rf] 111)).cell? ⟨wr.heap.size, 1, none⟩ = some (.int .i64 rf) := by
       constructor <;> (rw [cell_of_row _ _ _ _ _ _ (heap_alloc_new wr _)]; rfl)
      go_upto_region 10 with fail
      clear e0 e1 hbk hbq3
      generalize wr.alloc (.cells #[.int .i64 rk, .int .i64 rf] 111) = w5 at *
      generalize wr.heap.size = q at *
      have kd := (Below.refl w5.heap.size w5).drew
      have hx : Hid (∃ x, x = wrtN h rk) := hid ⟨_, rfl⟩
      obtain ⟨x, hx⟩ := hx.out
      have hxs : IsSet x := by rw [hx]; exact wrtN_set h rk
      have HX := hid hx
      rw [← hx] at HRD
      clear hx
      have HS2 : Hid (∀ wx, Below w5.heap.size w5 wx → RdS B bm q rk rf x wx) := hid (fun wx hx => by
       have hbw := below_then hbq4 hx
       refine ⟨(HOA.out wx hbw).cM, (hx.cell (p := ⟨q, 0, none⟩) (block_lt d0)).trans d0, (hx.cell (p := ⟨q, 1, none⟩) (block_lt d1)).trans d1, ?_⟩
       have hK := lookI_run (t := 99) (el := 96) (w := wx) false keyI mapIS 0 (zeroS _) (HM.out wx hbw) hkI
       rw [HWR.out rk, ← HX.out] at hK
       simpa only [Bool.false_eq_true, if_false, eS] using hK)
      have HAND := hid (Go.bits_and_u64_nat sn x hset hxs)
      have hand := HAND.out
      have CL := hid (fun wx (hx : Below w5.heap.size w5 wx) => alast_any _ l (sn &&& x) wx (isSet_and hset) (HL3.out wx (below_then hbq4 hx)))
      generalize sn &&& x = sx at *
      generalize lastI l sx = lv at *
      have HBK := hid (fun wx (hx : Below w5.heap.size w5 wx) => And.intro (below_then hbq hx) (HB3.out wx (below_then hbq4 hx)))
      clear d0 d1 hbq hbq4 HX HRO
      cases rb with
      | true =>
       have hlv : lv = rf := of_decide_eq_true HRD.out.symm
       rw [hlv] at CL
       clear hlv
       have HY := hid (HYE.out rfl)
       clear HRD HNO HYE
       ·skip
        refine wp_region_held_drew (S := RdS B bm q rk rf x) (by kernel_rfl) (HS2.out _ kd) (fun hS0 => ?_)
        refine tG (some 45) 0 ?vb00 rfl rfl (Or.inl ⟨by rfl, ?hb00⟩) hS0 ?rb00
        case hb00 => (intro w hw; obtain ⟨n0, n1, n2, n3⟩ := hw; go_simp; try (with_reducible rfl))
        try simp only [Act.put, zA, zB, zC]
        refine tG (some 46) 1 ?vb01 rfl rfl (Or.inl ⟨by rfl, ?hb01⟩) hS0 ?rb01
        case hb01 => (intro w hw; obtain ⟨n0, n1, n2, n3⟩ := hw; go_simp; try (with_reducible rfl))
        try simp only [Act.put, zA, zB, zC]
        refine tG (some 47) 2 ?vb02 rfl rfl (Or.inl ⟨by rfl, ?hb02⟩) hS0 ?rb02
        case hb02 => (intro w hw; obtain ⟨n0, n1, n2, n3⟩ := hw; go_simp; try (with_reducible rfl))
        try simp only [Act.put, zA, zB, zC]
        refine tG (some 48) 3 ?vb03 rfl rfl (Or.inl ⟨by rfl, ?hb03⟩) hS0 ?rb03
        case hb03 => (intro w hw; obtain ⟨n0, n1, n2, n3⟩ := hw; go_simp; try (with_reducible rfl))
        try simp only [Act.put, zA, zB, zC]
        refine tG (some 49) 4 ?vb04 rfl rfl (Or.inl ⟨by rfl, ?hb04⟩) hS0 ?rb04
        case hb04 => (intro w hw; obtain ⟨n0, n1, n2, n3⟩ := hw; go_simp; try (with_reducible rfl))
        try simp only [Act.put, zA, zB, zC]
        refine tG (some 50) 5 ?vb05 rfl rfl (Or.inl ⟨by rfl, ?hb05⟩) hS0 ?rb05
        case hb05 => (intro w hw; obtain ⟨n0, n1, n2, n3⟩ := hw; go_simp; try (with_reducible rfl))
        try simp only [Act.put, zA, zB, zC]
        refine tG (some 51) 6 ?vb06 rfl rfl (Or.inl ⟨by rfl, ?hb06⟩) hS0 ?rb06
        case hb06 => (intro w hw; obtain ⟨n0, n1, n2, n3⟩ := hw; go_simp; try (with_reducible rfl))
        try simp only [Act.put, zA, zB, zC]
        refine tG (some 52) 7 ?vb07 rfl rfl (Or.inl ⟨by rfl, ?hb07⟩) hS0 ?rb07
        case hb07 => (intro w hw; obtain ⟨n0, n1, n2, n3⟩ := hw; go_simp; try (with_reducible rfl))
        try simp only [Act.put, zA, zB, zC]
        refine tG (some 53) 8 ?vb08 rfl rfl (Or.inl ⟨by rfl, ?hb08⟩) hS0 ?rb08
        case hb08 => (intro w hw; obtain ⟨n0, n1, n2, n3⟩ := hw; go_simp; try (with_reducible rfl))
        try simp only [Act.put, zA, zB, zC]
        refine tG (some 54) 9 ?vb09 rfl rfl (Or.inl ⟨by rfl, ?hb09⟩) hS0 ?rb09
        case hb09 => (intro w hw; obtain ⟨n0, n1, n2, n3⟩ := hw; go_simp; try (with_reducible rfl))
        try simp only [Act.put, zA, zB, zC]
        refine tG (some 56) 11 ?vb011 rfl rfl (Or.inl ⟨by rfl, ?hb011⟩) hS0 ?rb011
        case hb011 => (intro w hw; obtain ⟨n0, n1, n2, n3⟩ := hw; go_simp; try (with_reducible rfl))
        try simp only [Act.put, zA, zB, zC]
        refine tG (some 57) 12 ?vb012 rfl rfl (Or.inl ⟨by rfl, ?hb012⟩) hS0 ?rb012
        case hb012 => (intro w hw; obtain ⟨n0, n1, n2, n3⟩ := hw; go_simp; try (with_reducible rfl))
        try simp only [Act.put, zA, zB, zC]
        refine rD 10 rfl (fun K hK => ?_)
        go_simp
        refine (CL.out _ kd).mono ?_
        rintro e q2 ⟨rfl, hq2⟩
        show K _ _
        have k2 := below_then kd hq2
        have s2 := HS2.out _ k2
        refine hK.out _ _ s2 (fun _ => ?_)
        clear hK K
        refine tA (some 58) 13 rfl rfl s2 ?_
        try simp only [Act.put, zA, zB, zC]
        refine wpAnyH_done (by kernel_rfl) ?_ _
        obtain ⟨hz1, _⟩ := HBK.out _ k2
        clear HBK CL HS2 s2 k2 kd hS0 hand HAND
        go_wp2_with fail
        go_roundw
        case rel => exact ⟨k + 1, by omega, by go_num, HY.out, hz1⟩
        case measure => simp [intOf]; omega
      | false =>
       have hlv : ¬ lv = rf := of_decide_eq_false HRD.out.symm
       have HY := hid (HNO.out rfl)
       clear HRD HNO HYE
       ·skip
        refine wp_region_held_drew (S := RdS B bm q rk rf x) (by kernel_rfl) (HS2.out _ kd) (fun hS0 => ?_)
        refine tG (some 45) 0 ?vc00 rfl rfl (Or.inl ⟨by rfl, ?hc00⟩) hS0 ?rc00
        case hc00 => (intro w hw; obtain ⟨n0, n1, n2, n3⟩ := hw; go_simp; try (with_reducible rfl))
        try simp only [Act.put, zA, zB, zC]
        refine tG (some 46) 1 ?vc01 rfl rfl (Or.inl ⟨by rfl, ?hc01⟩) hS0 ?rc01
        case hc01 => (intro w hw; obtain ⟨n0, n1, n2, n3⟩ := hw; go_simp; try (with_reducible rfl))
        try simp only [Act.put, zA, zB, zC]
        refine tG (some 47) 2 ?vc02 rfl rfl (Or.inl ⟨by rfl, ?hc02⟩) hS0 ?rc02
        case hc02 => (intro w hw; obtain ⟨n0, n1, n2, n3⟩ := hw; go_simp; try (with_reducible rfl))
        try simp only [Act.put, zA, zB, zC]
        refine tG (some 48) 3 ?vc03 rfl rfl (Or.inl ⟨by rfl, ?hc03⟩) hS0 ?rc03
        case hc03 => (intro w hw; obtain ⟨n0, n1, n2, n3⟩ := hw; go_simp; try (with_reducible rfl))
        try simp only [Act.put, zA, zB, zC]
        refine tG (some 49) 4 ?vc04 rfl rfl (Or.inl ⟨by rfl, ?hc04⟩) hS0 ?rc04
        case hc04 => (intro w hw; obtain ⟨n0, n1, n2, n3⟩ := hw; go_simp; try (with_reducible rfl))
        try simp only [Act.put, zA, zB, zC]
        refine tG (some 50) 5 ?vc05 rfl rfl (Or.inl ⟨by rfl, ?hc05⟩) hS0 ?rc05
        case hc05 => (intro w hw; obtain ⟨n0, n1, n2, n3⟩ := hw; go_simp; try (with_reducible rfl))
        try simp only [Act.put, zA, zB, zC]
        refine tG (some 51) 6 ?vc06 rfl rfl (Or.inl ⟨by rfl, ?hc06⟩) hS0 ?rc06
        case hc06 => (intro w hw; obtain ⟨n0, n1, n2, n3⟩ := hw; go_simp; try (with_reducible rfl))
        try simp only [Act.put, zA, zB, zC]
        refine tG (some 52) 7 ?vc07 rfl rfl (Or.inl ⟨by rfl, ?hc07⟩) hS0 ?rc07
        case hc07 => (intro w hw; obtain ⟨n0, n1, n2, n3⟩ := hw; go_simp; try (with_reducible rfl))
        try simp only [Act.put, zA, zB, zC]
        refine tG (some 53) 8 ?vc08 rfl rfl (Or.inl ⟨by rfl, ?hc08⟩) hS0 ?rc08
        case hc08 => (intro w hw; obtain ⟨n0, n1, n2, n3⟩ := hw; go_simp; try (with_reducible rfl))
        try simp only [Act.put, zA, zB, zC]
        refine tG (some 54) 9 ?vc09 rfl rfl (Or.inl ⟨by rfl, ?hc09⟩) hS0 ?rc09
        case hc09 => (intro w hw; obtain ⟨n0, n1, n2, n3⟩ := hw; go_simp; try (with_reducible rfl))
        try simp only [Act.put, zA, zB, zC]
        refine tG (some 56) 11 ?vc011 rfl rfl (Or.inl ⟨by rfl, ?hc011⟩) hS0 ?rc011
        case hc011 => (intro w hw; obtain ⟨n0, n1, n2, n3⟩ := hw; go_simp; try (with_reducible rfl))
        try simp only [Act.put, zA, zB, zC]
        refine tG (some 57) 12 ?vc012 rfl rfl (Or.inl ⟨by rfl, ?hc012⟩) hS0 ?rc012
        case hc012 => (intro w hw; obtain ⟨n0, n1, n2, n3⟩ := hw; go_simp; try (with_reducible rfl))
        try simp only [Act.put, zA, zB, zC]
        refine rD 10 rfl (fun K hK => ?_)
        go_simp
        refine (CL.out _ kd).mono ?_
        rintro e q2 ⟨rfl, hq2⟩
        show K _ _
        have k2 := below_then kd hq2
        have s2 := HS2.out _ k2
        refine hK.out _ _ s2 (fun _ => ?_)
        clear hK K
        refine tA (some 58) 13 rfl rfl s2 ?_
        try simp only [Act.put, zA, zB, zC]
        refine wpAnyH_done (by kernel_rfl) ?_ _
        obtain ⟨_, hz2⟩ := HBK.out _ k2
        clear HBK CL HS2 s2 k2 kd hS0 hand HAND
        have HVV : Hid (false = rightM h l V) := hid (by rw [HV.out, HY.out])
        go_wp2_with fail
        go_ret
        exact ⟨ret_b HVV.out, hz2⟩
     ·have hk2 : k = (readsOf h i).length := by omega
      subst hk2
      have HY := hid (rightTo_succ HRT.out HRO.out)
      have hbb := below_then hbi hbk
      go_wp2_with fail
      go_roundw
      case rel => exact ⟨i + 1, by omega, by go_num, HY.out, hbb⟩
      case measure => simp [intOf]; omega
   ·have hi2 : i = RR.length := by omega
    subst hi2
    have HVV : Hid (true = rightM h l V) := hid (by rw [HV.out, ← HLR.out, HRT.out])
    have hbz := HB3.out _ hb
    go_wp2_with fail
    go_ret
    exact ⟨ret_b HVV.out, hbz⟩
end

section
open Go.RowKit
def askC (k : Int) (M : Mat) : Array Value := ((Value.int .i64 k) :: (rowsA M).toList).toArray
theorem built_ask (k : Int) (M : Mat) : Tryz.prog.built 215 [(0, .int .i64 k), (1, .agg (rowsA M))] = some (askC k M) := by kernel_rfl
theorem askC_size (k : Int) (M : Mat) : (askC k M).size = 65 := by
 unfold askC; simp [rowsA_size]
theorem infoAsk : (Tryz.prog.info? 215).map (fun i => (i.zero, i.size, i.bytes)) = some (some (.agg ((Value.int .i64 0 :: List.replicate 64 (Value.int .u64 0)).toArray)), 65, 520) := by kernel_rfl
def asksA (M1 M2 M3 M4 M5 M6 : Mat) : Array Value := ((askC 1 M1).toList ++ ((askC 2 M2).toList ++ ((askC 4 M3).toList ++ ((askC 8 M4).toList ++ ((askC 16 M5).toList ++ (askC 32 M6).toList))))).toArray
theorem fill_asks (M1 M2 M3 M4 M5 M6 : Mat) :
  Instr.fill (fun i => some (i * 65, 65)) ((Array.range (6 * 65)).map ((Value.agg ((Value.int .i64 0 :: List.replicate 64 (Value.int .u64 0)).toArray)).cells[· % (Value.agg ((Value.int .i64 0 :: List.replicate 64 (Value.int .u64 0)).toArray)).cells.size]!)) [(0, .agg (askC 1 M1)), (1, .agg (askC 2 M2)), (2, .agg (askC 4 M3)), (3, .agg (askC 8 M4)), (4, .agg (askC 16 M5)), (5, .agg (askC 32 M6))] = some (asksA M1 M2 M3 M4 M5 M6) := by
 kernel_rfl
def bitA (k : Nat) : Nat := [1, 2, 4, 8, 16, 32].getD k 0
theorem ask_at0 (M : Nat → Mat) : ((asksA (M 0) (M 1) (M 2) (M 3) (M 4) (M 5)).extract (0 * 65) (0 * 65 + 65)).toList = (askC ((bitA 0 : Nat) : Int) (M 0)).toList := by kernel_rfl
theorem ask_at1 (M : Nat → Mat) : ((asksA (M 0) (M 1) (M 2) (M 3) (M 4) (M 5)).extract (1 * 65) (1 * 65 + 65)).toList = (askC ((bitA 1 : Nat) : Int) (M 1)).toList := by kernel_rfl
theorem ask_at2 (M : Nat → Mat) : ((asksA (M 0) (M 1) (M 2) (M 3) (M 4) (M 5)).extract (2 * 65) (2 * 65 + 65)).toList = (askC ((bitA 2 : Nat) : Int) (M 2)).toList := by kernel_rfl
theorem ask_at3 (M : Nat → Mat) : ((asksA (M 0) (M 1) (M 2) (M 3) (M 4) (M 5)).extract (3 * 65) (3 * 65 + 65)).toList = (askC ((bitA 3 : Nat) : Int) (M 3)).toList := by kernel_rfl
theorem ask_at4 (M : Nat → Mat) : ((asksA (M 0) (M 1) (M 2) (M 3) (M 4) (M 5)).extract (4 * 65) (4 * 65 + 65)).toList = (askC ((bitA 4 : Nat) : Int) (M 4)).toList := by kernel_rfl
theorem ask_at5 (M : Nat → Mat) : ((asksA (M 0) (M 1) (M 2) (M 3) (M 4) (M 5)).extract (5 * 65) (5 * 65 + 65)).toList = (askC ((bitA 5 : Nat) : Int) (M 5)).toList := by kernel_rfl
theorem ask_at (M : Nat → Mat) : ∀ (k : Nat) (_ : k < 6), ((asksA (M 0) (M 1) (M 2) (M 3) (M 4) (M 5)).extract (k * 65) (k * 65 + 65)).toList = (askC ((bitA k : Nat) : Int) (M k)).toList
 | 0, _ => ask_at0 M
 | 1, _ => ask_at1 M
 | 2, _ => ask_at2 M
 | 3, _ => ask_at3 M
 | 4, _ => ask_at4 M
 | 5, _ => ask_at5 M
 | k + 6, h => absurd h (by omega)
theorem ask_must (k : Int) (M : Mat) : ((askC k M).extract 1 (1 + 64)).toList = (rowsA M).toList := by kernel_rfl
theorem ask_one (k : Int) (M : Mat) : (askC k M).all (·.oneCell') = true := by
 rw [Array.all_eq_true_iff_forall_mem]
 intro v hv
 have : v ∈ (askC k M).toList := by simpa using hv
 unfold askC at this
 rw [List.toList_toArray] at this
 rcases List.mem_cons.1 this with rfl | h
 ·rfl
 ·have := rows_one M
  rw [Array.all_eq_true_iff_forall_mem] at this
  exact this v (by simpa using h)
theorem yields_ask {ops : Array Oper} {S : World → Prop} {o : Oper} {a : Act} {k : Int} {M : Mat} (hw : Region.wanted o (yielded ops a.tmps) = true) (x : Operand) (ho : o.op = .build 215 #[(0, .const (.int .i64 k)), (1, x)])
  (hx : a.eval x = .agg (rowsA M)) : YieldsIf Tryz.prog ops S o (.agg (askC k M)) a :=
 .inl ⟨hw, fun w _ => by
  have h := run_build w 215 #[(0, .int .i64 k), (1, .agg (rowsA M))] _ (built_ask k M)
  unfold execOp
  simp only [ho, Sem.run_bind]
  have e : (#[(0, Operand.const (Value.int .i64 k)), (1, x)].map fun (p : Nat × Operand) => (p.1, a.eval p.2)) = #[(0, Value.int .i64 k), (1, Value.agg (rowsA M))] := by
   rw [List.map_toArray, List.map_cons, List.map_cons, List.map_nil, hx]; rfl
  first | (rw [e, h]; rfl) | (simp only [e, h, Result.andThen_ok]; rfl)⟩
end

end Go.Proofs.YtmcicfdnmfbimaaGreatDoor
