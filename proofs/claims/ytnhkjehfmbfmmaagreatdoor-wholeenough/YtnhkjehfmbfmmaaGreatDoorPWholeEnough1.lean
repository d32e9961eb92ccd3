/- Walks and plain facts that the proof of the statement WholeEnough uses, joined: RelA RelC RelB RelD RelE LeaA MapI TxnM TxnA TxnB TxnD TxnE TxnF TxnG TxnH AppS OrdA TxnL HisA HisB HisC HisD HisE OrdB OrdC. Conditions: each theorem's own. -/
import Derived.Test.YtnhkjehfmbfmmaaGreatDoorShelfS
import Derived.StillTailTactics
import Derived.Laws.Tables
import Derived.Laws.CopyOwn
import Derived.Deep.QuietTactic
import Derived.BigQuiet
import Derived.Maps.RangeWalk
import Derived.WalkKit
import Derived.WalkSmall
import Derived.Laws.StructEq
import Derived.OwnWalk
import Derived.Deep.AppendLies
import Derived.Test.YtnhkjehfmbfmmaaGreatDoorPWholeEnough0
namespace Go.Proofs.YtnhkjehfmbfmmaaGreatDoor
set_option maxHeartbeats 32000000
set_option maxRecDepth 100000
set_option linter.unusedSimpArgs false
set_option linter.unusedVariables false
open Lib (hid)
section
open Go.RowKit
def mayB (n : Int) : Bool := decide (0 ≤ n ∧ n < 64)
theorem rmayn_any (n : Int) (w : World) :
  Calls Tryz.prog 147 #[.int .i64 n] w fun e w' => e = .returned (.bool (mayB n)) ∧ w = w' := by
 have H : Hid ((decide (0 ≤ n) && decide (n < 64)) = mayB n) := hid (by unfold mayB; simp)
 by_cases h0 : 0 ≤ n
 ·have H1 : Hid (decide (n < 64) = mayB n) := hid (by rw [← H.out]; simp [h0])
  go_enter Tryz.func147, Tryz.ntmps147
  go_wp2
  go_ret
  exact ⟨ret_b H1.out, rfl⟩
 ·have H1 : Hid (false = mayB n) := hid (by rw [← H.out]; simp [h0])
  go_enter Tryz.func147, Tryz.ntmps147
  go_wp2
  go_ret
  exact ⟨ret_b H1.out, rfl⟩
theorem may_yes (n : Int) (w : World) (h : 0 ≤ n ∧ n < 64) : Calls Tryz.prog 147 #[.int .i64 n] w fun e w' => e = .returned (.bool true) ∧ w = w' := by
 have := rmayn_any n w
 rwa [show mayB n = true from by unfold mayB; simp [h]] at this
theorem may_no (n : Int) (w : World) (h : ¬ (0 ≤ n ∧ n < 64)) : Calls Tryz.prog 147 #[.int .i64 n] w fun e w' => e = .returned (.bool false) ∧ w = w' := by
 have := rmayn_any n w
 rwa [show mayB n = false from by unfold mayB; simp [h]] at this
def hasR (R : Mat) (a b : Int) : Bool := mayB a && hasB (mkS (R a.toNat)) b
theorem rhasR_any (R : Mat) (a b : Int) (w : World) :
  Calls Tryz.prog 225 #[.agg (rowsA R), .int .i64 a, .int .i64 b] w fun e w' => e = .returned (.bool (hasR R a b)) ∧ Below w.heap.size w w' := by
 by_cases ha : 0 ≤ a ∧ a < 64
 ·obtain ⟨i, rfl⟩ := Int.eq_ofNat_of_zero_le ha.1
  have hi : i < 64 := by omega
  have CM := hid (fun wx => may_yes (i : Int) wx ha)
  have HR : Hid (hasB (mkS (R i)) b = hasR R (i : Int) b) := hid (by unfold hasR mayB; simp [ha])
  have hc := (RelAt.new w 108 R).cell hi
  have hset := isSet_mkS (R i)
  clear ha
  generalize mkS (R i) = s at *
  go_enter Tryz.func225, Tryz.ntmps225
  go_wp2_with (first
   | (go_at_call 147; refine (CM.out _).mono ?_; rintro e w' ⟨rfl, rfl⟩)
   | (go_at_call 173; refine (has_any s b _ hset).mono ?_; rintro e w' ⟨rfl, rfl⟩))
  go_ret
  exact ⟨ret_b HR.out, (Below.refl _ _).alloc (Nat.le_refl _) _⟩
 ·have CM := hid (fun wx => may_no a wx ha)
  have HR : Hid (false = hasR R a b) := hid (by unfold hasR mayB; simp [ha])
  clear ha
  go_enter Tryz.func225, Tryz.ntmps225
  go_wp2_with (go_at_call 147; refine (CM.out _).mono ?_; rintro e w' ⟨rfl, rfl⟩)
  go_ret
  exact ⟨ret_b HR.out, (Below.refl _ _).alloc (Nat.le_refl _) _⟩
theorem infoRel : (Tryz.prog.info? 108).map (·.size) = some 64 := by kernel_rfl
theorem infoRel' (R : Mat) : (Tryz.prog.info? 108).map (·.size) = some (rowsA R).size := by rw [rowsA_size]; exact infoRel
theorem rows_one (R : Mat) : (rowsA R).all (·.oneCell') = true := by
 rw [Array.all_eq_true_iff_forall_mem]
 intro v hv
 have : v ∈ (rowsA R).toList := by simpa using hv
 simp only [rowsA, List.toList_toArray, List.mem_map] at this
 obtain ⟨i, _, rfl⟩ := this
 rfl
theorem RelAt.setRow {w : World} {g : Nat} {t : TypeId} {R : Mat} (h : RelAt w g t R) (S : Mat) : RelAt (w.setRow g (rowsA S)) g t S := setRow_heap w g _ _ t _ h
theorem wpList_load_rel {ops : Array Oper} {rest : List Oper} {o : Oper} {a : Act} {w : World} {Q : Exit → Act → World → Prop} {g : Nat} {R : Mat} (h : RelAt w g 108 R) (hgd : o.guard = none) (x : Operand) (ho : o.op = .load 108 x)
  (hx : a.eval x = .pointer (some ⟨g, 0, none⟩)) (hn : wpList Tryz.prog ops Q rest (a.put o.dst (.agg (rowsA R))) w) : wpList Tryz.prog ops Q (o :: rest) a w :=
 wpList_load_row hgd 108 x ho g hx _ (rowsA R) _ _ h Tryz.underlying108 rfl (infoRel' _) hn
theorem wpList_store_rel {ops : Array Oper} {rest : List Oper} {o : Oper} {a : Act} {w : World} {Q : Exit → Act → World → Prop} {g : Nat} {S : Mat} (h : RelAt w g 108 S) (R : Mat) (hgd : o.guard = none) (x y : Operand) (ho : o.op = .store 108 x y)
  (hx : a.eval x = .pointer (some ⟨g, 0, none⟩)) (hy : a.eval y = .agg (rowsA R)) (hn : wpList Tryz.prog ops Q rest (a.put o.dst undef) (w.setRow g (rowsA R))) : wpList Tryz.prog ops Q (o :: rest) a w :=
 wpList_store_row hgd 108 x y ho g (rowsA R) hx hy _ _ h (infoRel' _) (by rw [rowsA_size, rowsA_size]) (rows_one _) hn
theorem results_rel {fn : Func} {p : Tmp} (h : fn.results = #[.cell p 108]) (tmps : Array Value) (w : World) (g : Nat) (R : Mat)
  (hp : tmps.getD p undef = .pointer (some ⟨g, 0, none⟩)) (hg : RelAt w g 108 R) : (results fn tmps).run Tryz.prog w = .ok (.agg (rowsA R)) w :=
 results_cell_row h tmps w g _ (rowsA R) _ _ hp hg Tryz.underlying108 rfl (infoRel' _)
theorem RelAt.setRow' {w : World} {g : Nat} {t : TypeId} {R : Mat} (h : RelAt w g t R) {S S' : Mat} (e : rowsA S = rowsA S') : RelAt (w.setRow g (rowsA S)) g t S' := by
 have := h.setRow S
 unfold RelAt at *
 rw [this, e]
def orR (R S : Mat) : Mat := fun i j => R i j || S i j
def orTo (R S : Mat) (k : Nat) : Mat := fun i j => if i < k then R i j || S i j else R i j
theorem mkS_or (p q : Nat → Bool) : mkS p ||| mkS q = mkS fun j => p j || q j := by
 apply mkS_eq (isSet_or (isSet_mkS p) (isSet_mkS q))
 intro i hi
 rw [Nat.testBit_or, testBit_mkS, testBit_mkS]; simp [hi]
theorem orTo_step (R S : Mat) (k : Nat) : rowSet (orTo R S k) k (fun j => R k j || S k j) = orTo R S (k + 1) := by
 funext i j
 unfold rowSet orTo
 by_cases h : i = k
 ·subst h; simp
 ·rw [if_neg h]
  by_cases h2 : i < k
  ·rw [if_pos h2, if_pos (by omega)]
  ·rw [if_neg h2, if_neg (by omega)]
theorem orTo_at (R S : Mat) (k : Nat) : orTo R S k k = R k := by funext j; unfold orTo; rw [if_neg (by omega)]
theorem orTo_end (R S : Mat) : rowsA (orTo R S 64) = rowsA (orR R S) := rowsA_congr fun i j hi _ => by unfold orTo orR; rw [if_pos hi]
theorem u64_or (p q : Nat → Bool) : Go.bits .or .u64 ((mkS p : Nat) : Int) ((mkS q : Nat) : Int) = ((mkS (fun j => p j || q j) : Nat) : Int) := by
 rw [Go.bits_or_u64_nat _ _ (isSet_mkS p) (isSet_mkS q), mkS_or]
theorem union_any (R S : Mat) (w : World) :
  Calls Tryz.prog 224 #[.agg (rowsA R), .agg (rowsA S)] w fun e w' => e = .returned (.agg (rowsA (orR R S))) ∧ Below w.heap.size w w' := by
 go_enter Tryz.func224, Tryz.ntmps224
 go_wp2
 go_loopw [6] (fun i wr => ∃ k : Nat, k ≤ 64 ∧ i = .int .i64 k ∧ RelAt wr w.heap.size 108 (orTo R S k) ∧ RelAt wr (w.heap.size + 1) 108 S ∧ RelAt wr (w.heap.size + 2) 108 noR ∧ Below w.heap.size w wr)
  (fun i _ => 64 - (intOf i).toNat)
 case atStart =>
  have e0 : rowsA R = rowsA (orTo R S 0) := rowsA_congr fun i j _ _ => by unfold orTo; rw [if_neg (by omega)]
  refine ⟨0, by omega, rfl, ?_, ?_, ?_, ?_⟩
  ·exact ((RelAt.made w _ (orTo R S 0) rfl e0).alloc _).alloc _
  ·exact (RelAt.made _ _ S (by simp) rfl).alloc _
  ·exact RelAt.made _ _ noR (by simp) (by rw [rowsA_none]; rfl)
  ·exact (((Below.refl w.heap.size w).alloc (Nat.le_refl _) _).alloc (by simp) _).alloc (by simp; omega) _
 case round =>
  obtain ⟨k, hk, rfl, h0, h1, h2, hb⟩ := hrel
  by_cases hlt : k < 64
  ·have hc0 := h0.cell hlt
   have hc1 := h1.cell hlt
   rw [orTo_at] at hc0
   have hf := h0.free k
   have HO := u64_or (R k) (S k)
   have HS := hid (orTo_step R S k)
   have HN := hid (h0.store k _ (fun j => R k j || S k j) rfl)
   have H1 := hid (h1.other (k := ⟨w.heap.size, k, none⟩) (by simp) (.int .u64 ((mkS (fun j => R k j || S k j) : Nat) : Int)))
   have H2 := hid (h2.other (k := ⟨w.heap.size, k, none⟩) (by simp) (.int .u64 ((mkS (fun j => R k j || S k j) : Nat) : Int)))
   have HB := hid (hb.setCell (p := ⟨w.heap.size, k, none⟩) (Nat.le_refl _) (.int .u64 ((mkS (fun j => R k j || S k j) : Nat) : Int)))
   clear h0 h1 h2 hb
   generalize mkS (fun j => R k j || S k j) = z at *
   generalize mkS (R k) = x at *
   generalize mkS (S k) = y at *
   go_wp2
   go_still_tail 8, (by kernel_rfl)
   go_wp2
   go_roundw
   case rel => exact ⟨k + 1, by omega, by go_num, by rw [← HS.out]; exact HN.out, H1.out, H2.out, HB.out.drew⟩
   case measure => simp [intOf]; omega
  ·have hk64 : k = 64 := by omega
   subst hk64
   go_wp2_with (first
    | (with_reducible refine wpList_load_rel h0 rfl _ rfl rfl ?_)
    | (with_reducible refine wpList_store_rel h2 (orTo R S 64) rfl _ _ rfl rfl rfl ?_))
   have h3 := h2.setRow (orTo R S 64)
   rw [orTo_end] at h3
   exact bodyPost_ret (results_rel rfl _ _ _ _ rfl h3) rfl ⟨rfl, below_setRow hb (by omega) _⟩
end

section
open Go.RowKit
theorem infoSet : (Tryz.prog.info? 106).map (·.size) = some 1 := by kernel_rfl
theorem run_index_rel (R : Mat) (k : Nat) (hk : k < 64) (w : World) :
  (Instr.index 108 (.agg (rowsA R)) (.int .i64 (k : Int))).run Tryz.prog w = .ok (.int .u64 ((mkS (R k) : Nat) : Int)) w := by
 have h1 := rowsA_at R hk
 obtain ⟨i, hi, hs⟩ := Option.map_eq_some_iff.1 infoSet
 simp [Instr.index, asIntOf, Sem.run_bind, run_underlying Tryz.underlying108 w, hk, sizeOf, typeInfo, hi, hs, part, isAgg, h1]
def inMTo (R S : Mat) (k : Nat) : Bool := (List.range k).all fun i => inB (mkS (R i)) (mkS (S i))
def inM (R S : Mat) : Bool := inMTo R S 64
theorem hasB_mkS (p : Nat → Bool) (n : Nat) (hn : n < 64) : hasB (mkS p) (n : Int) = p n := by
 unfold hasB
 have h : 0 ≤ (n : Int) ∧ (n : Int) < 64 := by omega
 rw [Int.toNat_natCast, testBit_mkS]
 simp [h, hn]
end

section
open Go.RowKit
def turnR (R : Mat) : Mat := fun i j => R j i
def turnTo (R : Mat) (a : Nat) (p : Nat → Bool) : Mat := fun i j => (decide (j < a) && R j i) || (decide (j = a) && p i)
theorem withS_mkS (q : Nat → Bool) (a : Nat) (ha : a < 64) : withS (mkS q) (a : Int) = mkS fun j => q j || decide (j = a) := by
 apply mkS_eq (isSet_withS (isSet_mkS q))
 intro i hi
 rw [testBit_withS, testBit_mkS]
 have h : 0 ≤ (a : Int) ∧ (a : Int) < 64 := by omega
 simp only [hi, h, decide_true, Bool.true_and, and_self, Int.toNat_natCast]
 congr 1
 rw [Bool.eq_iff_iff]; simp; exact ⟨fun h => h.symm, fun h => h.symm⟩
theorem turnTo_step (R : Mat) (a b : Nat) (p : Nat → Bool) : rowSet (turnTo R a p) b (fun j => turnTo R a p b j || decide (j = a)) = turnTo R a (fun i => p i || decide (i = b)) := by
 funext i j
 unfold rowSet turnTo
 by_cases e : i = b
 ·subst e
  by_cases h : j = a
  ·subst h; simp
  ·simp [h]
 ·rw [if_neg e]; simp [e]
theorem turnTo_next (R : Mat) (a : Nat) (p : Nat → Bool) (h : ∀ i, i < 64 → p i = R a i) : rowsA (turnTo R a p) = rowsA (turnTo R (a + 1) fun _ => false) := by
 apply rowsA_congr
 intro i j hi hj
 unfold turnTo
 by_cases e : j = a
 ·subst e; simp [h i hi]
 ·by_cases h2 : j < a
  ·have : j < a + 1 := by omega
   simp [h2, this, e]
  ·have : ¬ j < a + 1 := by omega
   simp [h2, this, e]
theorem turnTo_start (R : Mat) : rowsA noR = rowsA (turnTo R 0 fun _ => false) := rowsA_congr fun i j _ _ => by unfold turnTo noR; simp
theorem turnTo_end (R : Mat) : rowsA (turnTo R 64 fun _ => false) = rowsA (turnR R) := rowsA_congr fun i j _ hj => by unfold turnTo turnR; simp [hj]
theorem any_take (L : List Nat) (k : Nat) (hk : k < L.length) (i : Nat) : (L.take (k + 1)).contains i = ((L.take k).contains i || decide (i = L[k])) := by
 rw [Bool.eq_iff_iff, Bool.or_eq_true, List.contains_iff_mem, List.contains_iff_mem, List.take_succ_eq_append_getElem hk, List.mem_append, List.mem_singleton, decide_eq_true_iff]
theorem lst_mem_mkS (p : Nat → Bool) (i : Nat) (hi : i < 64) : (lst (mkS p)).contains i = p i := by
 rw [lst_mkS, Bool.eq_iff_iff]; simp [hi]
theorem lst_lt {s k : Nat} (hk : k < (lst s).length) : (lst s)[k] < 64 := (mem_lst.1 (List.getElem_mem hk)).1
theorem turned_any (R : Mat) (w : World) (ht : Tab w) :
  Calls Tryz.prog 180 #[.agg (rowsA R)] w fun e w' => e = .returned (.agg (rowsA (turnR R))) ∧ Below w.heap.size w w' := by
 have hg := ht.pos
 have HT : Hid (∀ wx, Below w.heap.size w wx → Tab wx) := hid (fun wx hb => ht.below hb hg)
 clear ht
 obtain ⟨B, hB⟩ : ∃ B, B = w.heap.size := ⟨_, rfl⟩
 have h0 : RelAt (w.alloc (.cells (rowsA R) 108)) B 108 R := RelAt.made w _ R hB rfl
 subst hB
 go_enter Tryz.func180, Tryz.ntmps180
 go_wp2_with (with_reducible refine wpList_load_rel ((h0.alloc _).alloc _) rfl _ rfl rfl ?_)
 go_loopw [9] (fun i wr => ∃ a : Nat, a ≤ 64 ∧ i = .int .i64 a ∧ RelAt wr (w.heap.size + 2) 108 (turnTo R a fun _ => false) ∧ RelAt wr (w.heap.size + 1) 108 noR ∧ Below w.heap.size w wr)
  (fun i _ => 64 - (intOf i).toNat)
 case atStart =>
  refine ⟨0, by omega, rfl, ?_, ?_, ?_⟩
  ·exact RelAt.made _ _ _ (by simp) (by rw [← turnTo_start, rowsA_none]; rfl)
  ·exact (RelAt.made _ _ noR (by simp) (by rw [rowsA_none]; rfl)).alloc _
  ·exact (((Below.refl w.heap.size w).alloc (Nat.le_refl _) _).alloc (by simp) _).alloc (by simp; omega) _
 case round =>
  obtain ⟨a, ha, rfl, h2, h1, hb⟩ := hrel
  by_cases hlt : a < 64
  ·have hidx := fun wx => run_index_rel R a hlt wx
   have hda : decide ((a : Int) < 64) = true := by simp; omega
   have HNX := hid (turnTo_next R a ((lst (mkS (R a))).contains ·) (fun i hi => lst_mem_mkS _ i hi))
   have hset := isSet_mkS (R a)
   have hlen := lstTo_len (mkS (R a)) 64
   have HL : Hid (∀ (k : Nat) (hk : k < (lst (mkS (R a))).length), (lst (mkS (R a)))[k] < 64) := hid (fun k hk => lst_lt hk)
   have hlen' : (lst (mkS (R a))).length ≤ 64 := hlen
   clear hlen
   generalize mkS (R a) = x at *
   have hal : (a : Int) < 64 := by omega
   go_wp2_with fail
   refine (list_any x wr hset (HT.out _ hb)).mono ?_
   rintro e w1 ⟨v, rfl, hown, hb1⟩
   have h2' := h2.below hb1 h2.lt
   have h1' := h1.below hb1 h1.lt
   have hbb := hb.trans (hb1.mono hb.size)
   have hD : w.heap.size + 2 < wr.heap.size := h2.lt
   clear hb1 hb h1 h2 hset
   generalize wr.heap.size = D at *
   generalize lst x = L at *
   obtain ⟨ao, cap, rfl, hml⟩ := (Ints.of_nats hown).form
   rw [List.length_map] at *
   go_wp2_with fail
   go_loopw [16] (fun i wx => ∃ k : Nat, k ≤ L.length ∧ i = .int .i64 k ∧ RelAt wx (w.heap.size + 2) 108 (turnTo R a ((L.take k).contains ·)) ∧ RelAt wx (w.heap.size + 1) 108 noR ∧ Below w.heap.size w wx ∧ wx.ownsRow D 3 1 (.slice ao L.length cap) L.length (L.map fun i : Nat => Value.int .i64 (i : Int)))
    (fun i _ => L.length - (intOf i).toNat)
   case atStart => exact ⟨0, by omega, rfl, h2', h1', hbb, hown⟩
   case round =>
    obtain ⟨k, hk, rfl, hx2, hx1, hxb, hxo⟩ := hrel
    by_cases hlk : k < L.length
    ·obtain ⟨p, off, hao, hc⟩ := (Ints.of_nats hxo).at (k := k) (by simpa using hlk)
     cases hao
     rw [List.getElem_map] at hc
     have hbl := HL.out k hlk
     have hbi : (L[k] : Int) < 64 := by omega
     have HQ := hid (any_take L k hlk)
     have HStep := hid (turnTo_step R a L[k] ((L.take k).contains ·))
     generalize L[k] = b at *
     have hcb := hx2.cell hbl
     have hf := hx2.free b
     have hM := hid (withS_mkS (turnTo R a ((L.take k).contains ·) b) a hlt)
     have hset := isSet_mkS (turnTo R a ((L.take k).contains ·) b)
     have HN := hid (hx2.store b _ (fun j => turnTo R a ((L.take k).contains ·) b j || decide (j = a)) hM.out)
     have H1 := hid (fun v => hx1.other (k := ⟨w.heap.size + 2, b, none⟩) (by simp) v)
     have HB := hid (fun v => hxb.setCell (p := ⟨w.heap.size + 2, b, none⟩) (by simp) v)
     have HI := hid (fun v => ownsRow_setCell_below hxo (a := ⟨w.heap.size + 2, b, none⟩) hD v)
     clear hx2 hx1 hxb hxo
     generalize mkS (turnTo R a ((L.take k).contains ·) b) = y at *
     change World.cell? _ ⟨p, off + k, none⟩ = some (.int .i64 (b : Int)) at hc
     go_wp2_with (go_at_call 106; refine (with_any y (a : Int) _ hset).mono ?_; rintro e w' ⟨rfl, rfl⟩)
     go_roundw
     case rel =>
      refine ⟨k + 1, by omega, by go_num, ?_, H1.out _, HB.out _, HI.out _⟩
      have h := HN.out
      rw [HStep.out, ← funext HQ.out] at h
      exact h
     case measure => simp [intOf]; omega
    ·have hkL : k = L.length := by omega
     subst hkL
     have HX : Hid (RelAt _ (w.heap.size + 2) 108 (turnTo R (a + 1) fun _ => false)) := hid (by
      rw [List.take_length] at hx2
      unfold RelAt at *
      rw [← HNX.out]; exact hx2)
     clear hx2 hxo
     go_wp2
     go_roundw
     case rel => exact ⟨a + 1, by omega, by go_num, HX.out, hx1, hxb⟩
     case measure => simp [intOf]; omega
  ·have ha64 : a = 64 := by omega
   subst ha64
   go_wp2_with (first
    | (with_reducible refine wpList_load_rel h2 rfl _ rfl rfl ?_)
    | (with_reducible refine wpList_store_rel h1 (turnTo R 64 fun _ => false) rfl _ _ rfl rfl rfl ?_))
   have h3 := h1.setRow' (turnTo_end R)
   exact bodyPost_ret (results_rel rfl _ _ _ _ rfl h3) rfl ⟨rfl, below_setRow hb (by omega) _⟩
end

section
open Go.RowKit
def thenR (R S : Mat) : Mat := fun i j => (List.range 64).any fun m => R i m && S m j
end

section
inductive Must (S A : Mat) (tr pf : Bool) : Nat → Nat → Prop
 | base {i j : Nat} : S i j = true → Must S A tr pf i j
 | trans {i m j : Nat} : tr = true → m < 64 → Must S A tr pf i m → Must S A tr pf m j → Must S A tr pf i j
 | pre {i m j : Nat} : pf = true → m < 64 → A i m = true → Must S A tr pf m j → Must S A tr pf i j
section
variable {S A V : Mat} {tr pf : Bool}
theorem thenR_iff (R S : Mat) (i j : Nat) : thenR R S i j = true ↔ ∃ m, m < 64 ∧ R i m = true ∧ S m j = true := by
 unfold thenR
 rw [List.any_eq_true]
 constructor
 ·rintro ⟨m, hm, h⟩
  rw [Bool.and_eq_true] at h
  exact ⟨m, List.mem_range.1 hm, h.1, h.2⟩
 ·rintro ⟨m, hm, h1, h2⟩
  exact ⟨m, List.mem_range.2 hm, by rw [h1, h2]; rfl⟩
theorem orR_iff (R S : Mat) (i j : Nat) : orR R S i j = true ↔ R i j = true ∨ S i j = true := by
 unfold orR; rw [Bool.or_eq_true]
end
end

section
open Go.RowKit
abbrev InI (x : Int) : Prop := (Lit.int .i64 x).wf = true
open Classical in
noncomputable def rdE {α : Type} (e : α → Value) (v : Value) : Option (DataW Value × List MemPlace) := if ∃ a, v = e a then some (.held v, []) else none
theorem rdE_mk {α : Type} (e : α → Value) (a : α) : rdE e (e a) = some (.held (e a), []) := by
 unfold rdE; rw [if_pos ⟨a, rfl⟩]
theorem rdE_inv {α : Type} {e : α → Value} {v : Value} {y : DataW Value × List MemPlace} (h : rdE e v = some y) : ∃ a, v = e a ∧ y = (.held (e a), []) := by
 unfold rdE at h
 split at h
 ·rename_i hv
  obtain ⟨a, rfl⟩ := hv
  exact ⟨a, rfl, (Option.some.inj h).symm⟩
 ·cases h
def Tells {α : Type} (e : α → Value) (D : DataW Value) (f : Int → Option α) : Prop :=
 ∀ x, InI x → Maps.has D (.int .i64 x) = (f x).isSome ∧ ∀ a, f x = some a → ∀ z, D.atKey (.int .i64 x) z = .held (e a)
def MapI {α : Type} (e : α → Value) (P : Program) (k : TypeId) (w : World) (b n : Nat) (f : Int → Option α) (c : Nat) : Prop :=
 ∃ D, w.ownsMap P k (rdE e) b n D ∧ Maps.size D = c ∧ Tells e D f
theorem MapI.made {α : Type} (e : α → Value) (P : Program) (k : TypeId) (w : World) : MapI e P k (w.alloc (.map #[] 0)) w.heap.size 0 (fun _ => none) 0 :=
 ⟨_, World.ownsMap_made w P k (rdE e), rfl, fun _ _ => ⟨rfl, fun _ h => by cases h⟩⟩
section
variable {α : Type} {e : α → Value} {P : Program} {k : TypeId} {w : World} {b n : Nat} {f : Int → Option α} {c : Nat}
theorem MapI.lt (h : MapI e P k w b n f c) : b < w.heap.size := by obtain ⟨D, h, _⟩ := h; exact h.lt
theorem MapI.mono (h : MapI e P k w b n f c) {n' : Nat} (hn : n ≤ n') : MapI e P k w b n' f c := by
 obtain ⟨D, h, r⟩ := h; exact ⟨D, h.mono hn, r⟩
theorem MapI.kept {w' : World} {row : Option Nat} (h : MapI e P k w b n f c) (hg : w.grownBy w' row) (hne : some b ≠ row) : MapI e P k w' b n f c := by
 obtain ⟨D, h, r⟩ := h; exact ⟨D, h.kept hg hne, r⟩
theorem MapI.below {w' : World} (h : MapI e P k w b n f c) (hb : Below w.heap.size w w') : MapI e P k w' b n f c :=
 h.kept (row := none) ⟨hb.os, hb.tape, hb.output, hb.size, fun j hj _ => hb.block j hj⟩ (by simp)
theorem MapI.alloc (h : MapI e P k w b n f c) (o : Obj) : MapI e P k (w.alloc o) b n f c := by
 obtain ⟨D, h, r⟩ := h; exact ⟨D, h.alloc o, r⟩
theorem keyOf_I (hk : P.underlying k = some (.int .i64)) {x : Int} (hx : InI x) : keyOf P k (.int .i64 x) = some (.int .i64 x) := Maps.keyOf_int_mk hk hx
theorem isKey_I (x : Int) : WideAt.IsKeyLit (.int .i64 x) := trivial
end
section
variable {α : Type} {e : α → Value} {P : Program} (w : World) {ops : Array Oper} {rest : List Oper} {o : Oper} {a : Act} {Q : Exit → Act → World → Prop}
theorem lookI_run {k el t : TypeId} {b n c : Nat} {f : Int → Option α} {w : World} (cm : Bool) (hk : P.underlying k = some (.int .i64)) (ht : P.underlying t = some (.map k el)) (a0 : α) (hz : (zeroValue el).run P w = .ok (e a0) w)
  (hown : MapI e P k w b n f c) {key : Int} (hkey : InI key) :
  (Instr.lookup t (.map (some b)) (.int .i64 key) cm).run P w = .ok (if cm then .tuple #[e ((f key).getD a0), .bool (f key).isSome] else e ((f key).getD a0)) w := by
 obtain ⟨D, hD, _, ht2⟩ := hown
 obtain ⟨hh, hat⟩ := ht2 key hkey
 have K := Maps.int_keyed hk
 cases cm
 ·obtain ⟨v, ps, hrun, hv⟩ := hD.lookup K ht hz (rdE_mk e a0) (keyOf_I hk hkey)
  obtain ⟨x, rfl, hy⟩ := rdE_inv hv
  have hy := congrArg Prod.fst hy
  simp only at hy
  rw [hrun]
  cases hf : f key with
  | none =>
   rw [hf] at hh
   rw [Maps.atKey_of_not_has hh] at hy
   simp [DataW.held.inj hy]
  | some u =>
   rw [hat u hf] at hy
   simp [DataW.held.inj hy]
 ·obtain ⟨v, ps, hrun, hv⟩ := hD.look_ok K ht hz (rdE_mk e a0) (keyOf_I hk hkey)
  obtain ⟨x, rfl, hy⟩ := rdE_inv hv
  have hy := congrArg Prod.fst hy
  simp only at hy
  rw [hrun, hh]
  cases hf : f key with
  | none =>
   rw [hf] at hh
   rw [Maps.atKey_of_not_has hh] at hy
   simp [DataW.held.inj hy]
  | some u =>
   rw [hat u hf] at hy
   simp [DataW.held.inj hy]
theorem wpList_lookI_ok (hg : o.guard = none) (m x : Operand) (t : TypeId) (hop : o.op = Op.lookup t m x true) (k el : TypeId) (hk : P.underlying k = some (.int .i64)) (ht : P.underlying t = some (.map k el)) (a0 : α) (hz : (zeroValue el).run P w = .ok (e a0) w)
  (b n c : Nat) (f : Int → Option α) (hm : a.eval m = .map (some b)) (hown : MapI e P k w b n f c) (key : Int) (hx : a.eval x = .int .i64 key) (hkey : InI key)
  (hK : wpList P ops Q rest (a.put o.dst (.tuple #[e ((f key).getD a0), .bool (f key).isSome])) w) : wpList P ops Q (o :: rest) a w := by
 refine wpList_plain hg fun K' hK' => ?_
 have hrun := lookI_run true hk ht a0 hz hown hkey
 unfold Oper.wp
 simp only [if_true] at hrun
 simp [execOp, hop, hm, hx, hrun, Result.andThen]
 exact hK' _ _ hK
theorem wpList_lookI (hg : o.guard = none) (m x : Operand) (t : TypeId) (hop : o.op = Op.lookup t m x false) (k el : TypeId) (hk : P.underlying k = some (.int .i64)) (ht : P.underlying t = some (.map k el)) (a0 : α) (hz : (zeroValue el).run P w = .ok (e a0) w)
  (b n c : Nat) (f : Int → Option α) (hm : a.eval m = .map (some b)) (hown : MapI e P k w b n f c) (key : Int) (hx : a.eval x = .int .i64 key) (hkey : InI key)
  (hK : wpList P ops Q rest (a.put o.dst (e ((f key).getD a0))) w) : wpList P ops Q (o :: rest) a w := by
 refine wpList_plain hg fun K' hK' => ?_
 have hrun := lookI_run false hk ht a0 hz hown hkey
 unfold Oper.wp
 simp only [Bool.false_eq_true, if_false] at hrun
 simp [execOp, hop, hm, hx, hrun, Result.andThen]
 exact hK' _ _ hK
def putF (f : Int → Option α) (key : Int) (val : α) : Int → Option α := fun y => if y = key then some val else f y
theorem putF_same (f : Int → Option α) (key : Int) (val : α) : putF f key val key = some val := by simp [putF]
theorem putF_other (f : Int → Option α) {key y : Int} (val : α) (h : y ≠ key) : putF f key val y = f y := by simp [putF, h]
theorem wpList_putI (hg : o.guard = none) (m x v : Operand) (t : TypeId) (hop : o.op = Op.mapUpdate t m x v) (k el : TypeId) (hk : P.underlying k = some (.int .i64)) (ht : P.underlying t = some (.map k el))
  (b n c : Nat) (f : Int → Option α) (hm : a.eval m = .map (some b)) (hown : MapI e P k w b n f c) (hn : n < maxLen) (key : Int) (hx : a.eval x = .int .i64 key) (hkey : InI key) (val : α) (hv : a.eval v = e val)
  (hK : ∀ w', MapI e P k w' b (n + 1) (putF f key val) (if (f key).isSome then c else c + 1) → w.grownBy w' (some b) → wpList P ops Q rest (a.put o.dst undef) w') : wpList P ops Q (o :: rest) a w := by
 obtain ⟨D, hD, hs, ht2⟩ := hown
 refine wpList_mapUpdate_own w hg m x v t hop k el (Maps.int_keyed hk) ht (rdE e) b n D hm hD hn _ _ _ hx hv (keyOf_I hk hkey) _ [] (rdE_mk e val) fun w' h1 h2 => hK w' ⟨_, h1, ?_, fun y hy => ?_⟩ h2
 ·rw [Maps.size_put (hD.tidy (Maps.int_keyed hk)), (ht2 key hkey).1, hs]
 ·by_cases he : y = key
  ·subst he
   rw [putF_same]
   exact ⟨Maps.has_put_same hD.isMap (isKey_I y) _, fun u hu z => by cases hu; exact Maps.atKey_put_same hD.isMap (isKey_I y) _ _⟩
  ·have hne : Lit.int .i64 y ≠ .int .i64 key := fun h => he (by cases h; rfl)
   rw [putF_other f val he]
   exact ⟨(Maps.has_put_other hne _).trans (ht2 y hy).1, fun u hu z => (Maps.atKey_put_other hne _ _).trans ((ht2 y hy).2 u hu z)⟩
def RangeI (e : α → Value) (P : Program) (k : TypeId) (w : World) (b r n : Nat) (f : Int → Option α) (left : Int → Bool) (cnt : Nat) : Prop :=
 ∃ D L, w.ranges P k (rdE e) b r n D L cnt ∧ Tells e D f ∧ ∀ x, InI x → L (.int .i64 x) = left x
theorem RangeI.left_eq {k : TypeId} {b r n cnt : Nat} {f : Int → Option α} {left : Int → Bool} {w : World} (h : RangeI e P k w b r n f left cnt) : w.rangeLeft b r = cnt := by
 obtain ⟨D, L, h, _⟩ := h; exact h.left_eq
theorem RangeI.kept {k : TypeId} {b r n cnt : Nat} {f : Int → Option α} {left : Int → Bool} {w w' : World} {row : Option Nat} (h : RangeI e P k w b r n f left cnt) (hg : w.grownBy w' row) (hb : some b ≠ row) (hr : some r ≠ row) : RangeI e P k w' b r n f left cnt := by
 obtain ⟨D, L, h, q⟩ := h; exact ⟨D, L, h.kept hg hb hr, q⟩
theorem RangeI.alloc {k : TypeId} {b r n cnt : Nat} {f : Int → Option α} {left : Int → Bool} {w : World} (h : RangeI e P k w b r n f left cnt) (o : Obj) : RangeI e P k (w.alloc o) b r n f left cnt := by
 obtain ⟨D, L, h, q⟩ := h; exact ⟨D, L, h.alloc o, q⟩
theorem wpList_rangeI (hg : o.guard = none) (m : Operand) (t : TypeId) (hop : o.op = Op.range t m) (k el : TypeId) (hk : P.underlying k = some (.int .i64)) (ht : P.underlying t = some (.map k el)) (b n c : Nat) (f : Int → Option α)
  (hm : a.eval m = .map (some b)) (hown : MapI e P k w b n f c)
  (hK : ∀ w', RangeI e P k w' b w.heap.size n f (fun x => (f x).isSome) c → w.grownBy w' none → w'.heap.size = w.heap.size + 1 → wpList P ops Q rest (a.put o.dst (.pointer (some ⟨w.heap.size, 0, none⟩))) w') :
  wpList P ops Q (o :: rest) a w := by
 obtain ⟨D, hD, hs, ht2⟩ := hown
 refine wpList_range_own w hg m t hop k el (Maps.int_keyed hk) ht (rdE e) b n D hm hD fun w' h1 h2 h3 => hK w' ⟨D, _, hs ▸ h1, ht2, fun x hx => (ht2 x hx).1⟩ h2 h3
theorem wpList_nextI (hg : o.guard = none) (it : Operand) (hop : o.op = Op.next it false) (k : TypeId) (hk : P.underlying k = some (.int .i64)) (hinj : ∀ x y : α, e x = e y → x = y)
  (b r n : Nat) (f : Int → Option α) (left : Int → Bool) (cnt : Nat) (hit : a.eval it = .pointer (some ⟨r, 0, none⟩)) (h : RangeI e P k w b r n f left cnt)
  (hDone : cnt = 0 → (∀ x, InI x → left x = false) → wpList P ops Q rest (a.put o.dst (.tuple #[.bool false])) w)
  (hMore : ∀ (x : Int) (u : α) (w' : World) (cnt' : Nat), InI x → left x = true → f x = some u → RangeI e P k w' b r n f (fun y => left y && !decide (y = x)) cnt' → cnt' < cnt →
   w.grownBy w' (some r) → w'.heap.size = w.heap.size → (Instr.entry (.pointer (some ⟨r, 0, none⟩))).run P w' = .ok (.tuple #[.int .i64 x, e u]) w' → wpList P ops Q rest (a.put o.dst (.tuple #[.bool true, .int .i64 x, e u])) w') :
  wpList P ops Q (o :: rest) a w := by
 obtain ⟨D, L, hr, ht2, hL⟩ := h
 refine wpList_next_ranges w hg it hop k (Maps.int_keyed hk) (rdE e) (Value.int .i64) e (fun key kl hkey => by obtain ⟨x, rfl, _⟩ := Maps.keyOf_int_inv hk hkey; exact ⟨x, rfl⟩) (fun v y hv => by obtain ⟨c, rfl, _⟩ := rdE_inv hv; exact ⟨c, rfl⟩)
  b r n D L cnt hit hr (fun h0 hl => hDone h0 fun x hx => (hL x hx).symm.trans (hl _)) fun x u kl y w' cnt' hkey hlk hv hat hrg hlt hgr hsz hen => ?_
 obtain ⟨x', ex, rfl, hwx⟩ := Maps.keyOf_int_inv hk hkey
 cases ex
 obtain ⟨u', eu, rfl⟩ := rdE_inv hv
 obtain ⟨hh, hf⟩ := ht2 x hwx
 have hhas : Maps.has D (.int .i64 x) = true := Maps.has_true_of_atKey hat
 rw [hhas] at hh
 obtain ⟨u2, hu2⟩ := Option.isSome_iff_exists.1 hh.symm
 have e1 := (hf u2 hu2 .nil).symm.trans (hat .nil)
 simp only [DataW.held.injEq] at e1
 have e2 : u2 = u := hinj _ _ (e1.trans eu.symm)
 subst e2
 refine hMore x u2 w' cnt' hwx ((hL x hwx).symm.trans hlk) hu2 ⟨D, _, hrg, ht2, fun y hy => ?_⟩ hlt hgr hsz hen
 rw [hL y hy]
 by_cases hyx : y = x
 ·subst hyx
  rw [WideAt.sameKey_self (isKey_I y)]; simp
 ·rw [Maps.sameKey_ne (fun h => hyx (by cases h; rfl))]; simp [hyx]
end
end

section
open Go.RowKit
theorem inI_of {x : Int} (h : IntOk x) : InI x := WalkArith.wf_i64 (by have := h.1; have := h.2; omega)
def eI : Int → Value := Value.int .i64
def eO : OpV → Value := OpV.v
theorem eO_inj : ∀ x y : OpV, eO x = eO y → x = y := by
 rintro ⟨a, b, c⟩ ⟨a', b', c'⟩ h
 unfold eO OpV.v at h
 simp at h
 obtain ⟨rfl, rfl, rfl⟩ := h
 rfl
def lastO (l : List OpV) (x : Int) : Option OpV := (l.filter fun o => o.key == x).getLast?
def firstO (l : List OpV) (x : Int) : Option OpV := l.find? fun o => o.key == x
def lastW (l : List OpV) (x : Int) : Option OpV := (l.filter fun o => o.wr && o.key == x).getLast?
theorem take_snoc (l : List OpV) (k : Nat) (hk : k < l.length) : l.take (k + 1) = l.take k ++ [l[k]] := List.take_succ_eq_append_getElem hk
theorem lastO_snoc (l : List OpV) (o : OpV) : lastO (l ++ [o]) = putF (lastO l) o.key o := by
 funext y
 unfold lastO putF
 rw [List.filter_append]
 by_cases h : y = o.key
 ·subst h; simp
 ·have : (o.key == y) = false := by simp; exact fun e => h e.symm
  simp [this, h]
theorem lastW_snoc (l : List OpV) (o : OpV) : lastW (l ++ [o]) = if o.wr then putF (lastW l) o.key o else lastW l := by
 funext y
 cases hw : o.wr
 ·unfold lastW; rw [List.filter_append]; simp [hw]
 ·simp only [if_true]
  unfold lastW putF
  rw [List.filter_append]
  by_cases h : y = o.key
  ·subst h; simp [hw]
  ·have : (o.key == y) = false := by simp; exact fun e => h e.symm
   simp [hw, this, h]
theorem firstO_snoc (l : List OpV) (o : OpV) : firstO (l ++ [o]) = if (firstO l o.key).isSome then firstO l else putF (firstO l) o.key o := by
 funext y
 unfold firstO putF
 by_cases h : y = o.key
 ·subst h
  cases hf : l.find? (fun p => p.key == o.key) <;> simp [hf]
 ·have : (o.key == y) = false := by simp; exact fun e => h e.symm
  cases hf : l.find? (fun p => p.key == o.key) <;> simp [this, h]
theorem firstO_key {l : List OpV} {x : Int} {o : OpV} (h : firstO l x = some o) : o.key = x ∧ o ∈ l := by
 unfold firstO at h
 exact ⟨by simpa using List.find?_some h, List.mem_of_find?_eq_some h⟩
theorem lastW_key {l : List OpV} {x : Int} {o : OpV} (h : lastW l x = some o) : o.key = x ∧ o.wr = true ∧ o ∈ l := by
 unfold lastW at h
 have := List.mem_of_getLast? h
 simp at this
 exact ⟨this.2.2, this.2.1, this.1⟩
def stOk (l : List OpV) (k : Nat) : Bool :=
 match l[k]? with
 | none => true
 | some o => match lastO (l.take k) o.key with
  | none => true
  | some p => o.wr || o.val == p.val
def steadyL (l : List OpV) : Bool := (List.range l.length).all (stOk l)
theorem steadyL_all {l : List OpV} (h : ∀ j, j < l.length → stOk l j = true) : steadyL l = true := by
 unfold steadyL; rw [List.all_eq_true]; intro j hj; exact h j (List.mem_range.1 hj)
theorem steadyL_no {l : List OpV} {k : Nat} (hk : k < l.length) (h : stOk l k = false) : steadyL l = false := by
 unfold steadyL; rw [List.all_eq_false]; exact ⟨k, List.mem_range.2 hk, by simp [h]⟩
theorem stOk_at {l : List OpV} {k : Nat} (hk : k < l.length) : stOk l k = match lastO (l.take k) l[k].key with
  | none => true
  | some p => l[k].wr || l[k].val == p.val := by
 unfold stOk; rw [List.getElem?_eq_getElem hk]
def Rise (f : Int → Option OpV) (wr : Bool) (out : List OpV) : Prop := out.Pairwise (fun a b => a.key < b.key) ∧ ∀ o, o ∈ out ↔ (f o.key = some o ∧ o.wr = wr)
theorem rise_tail {a : OpV} {l m : List OpV} (h1 : ∀ x ∈ l, a.key < x.key) (h2 : ∀ x ∈ m, a.key < x.key) (hm : ∀ o, o ∈ a :: l ↔ o ∈ a :: m) : ∀ o, o ∈ l ↔ o ∈ m := by
 intro o
 have := hm o
 simp only [List.mem_cons] at this
 constructor
 ·intro ho
  rcases this.1 (Or.inr ho) with rfl | h
  ·have := h1 _ ho; omega
  ·exact h
 ·intro ho
  rcases this.2 (Or.inr ho) with rfl | h
  ·have := h2 _ ho; omega
  ·exact h
theorem rise_eq : ∀ {l m : List OpV}, l.Pairwise (fun a b => a.key < b.key) → m.Pairwise (fun a b => a.key < b.key) → (∀ o, o ∈ l ↔ o ∈ m) → l = m
 | [], [], _, _, _ => rfl
 | [], b :: m, _, _, h => by have := (h b).2 List.mem_cons_self; cases this
 | a :: l, [], _, _, h => by have := (h a).1 List.mem_cons_self; cases this
 | a :: l, b :: m, hl, hm, h => by
  obtain ⟨l1, l2⟩ := List.pairwise_cons.1 hl
  obtain ⟨m1, m2⟩ := List.pairwise_cons.1 hm
  have e : a = b := by
   rcases List.mem_cons.1 ((h a).1 List.mem_cons_self) with e | e
   ·exact e
   ·rcases List.mem_cons.1 ((h b).2 List.mem_cons_self) with e' | e'
    ·exact e'.symm
    ·have := m1 _ e; have := l1 _ e'; omega
  subst e
  rw [rise_eq l2 m2 (rise_tail l1 m1 h)]
theorem Rise.eq {f : Int → Option OpV} {wr : Bool} {l m : List OpV} (h1 : Rise f wr l) (h2 : Rise f wr m) : l = m :=
 rise_eq h1.1 h2.1 fun o => (h1.2 o).trans (h2.2 o).symm
end

section
open Go.RowKit
theorem keyI : Tryz.prog.underlying 3 = some (.int .i64) := Tryz.underlying3
theorem mapII : Tryz.prog.underlying 32 = some (.map 3 3) := Tryz.underlying32
theorem zeroI (w : World) : (zeroValue 3).run Tryz.prog w = .ok (eI 0) w := by kernel_rfl
theorem txnBlock (w : World) (x y z u : Value) (t : TypeId) : (w.alloc (.cells #[x, y, z, u] t)).cell? ⟨w.heap.size, 0, none⟩ = some x ∧ (w.alloc (.cells #[x, y, z, u] t)).cell? ⟨w.heap.size, 1, none⟩ = some y ∧ (w.alloc (.cells #[x, y, z, u] t)).cell? ⟨w.heap.size, 2, none⟩ = some z ∧ (w.alloc (.cells #[x, y, z, u] t)).cell? ⟨w.heap.size, 3, none⟩ = some u := by
 refine ⟨?_, ?_, ?_, ?_⟩ <;> simp
def valO (l : List OpV) : Int → Option Int := fun x => (lastO l x).map (·.val)
theorem valO_snoc (l : List OpV) (o : OpV) : valO (l ++ [o]) = putF (valO l) o.key o.val := by
 funext y
 unfold valO
 rw [lastO_snoc]
 unfold putF
 split <;> rfl
theorem valO_none {l : List OpV} {x : Int} (h : valO l x = none) : lastO l x = none := by
 unfold valO at h; simpa using h
theorem valO_some {l : List OpV} {x v : Int} (h : valO l x = some v) : ∃ p, lastO l x = some p ∧ p.val = v := by
 unfold valO at h; simpa using h
theorem all_snoc {p : Nat → Prop} {k : Nat} (h : ∀ j, j < k → p j) (hk : p k) : ∀ j, j < k + 1 → p j := fun j hj => by
 rcases Nat.lt_or_eq_of_le (Nat.le_of_lt_succ hj) with h1 | rfl
 ·exact h j h1
 ·exact hk
theorem steady_any (s b c : Int) (va : Value) (l : List OpV) (w : World) (ha : Ops w va l) (hok : ∀ o ∈ l, o.ok) (hlen : l.length ≤ 100000) :
  Calls Tryz.prog 105 #[.agg #[.int .i64 s, .int .i64 b, .int .i64 c, va]] w fun e w' => e = .returned (.bool (steadyL l)) ∧ Below w.heap.size w w' := by
 obtain ⟨ao, cap, rfl, hal⟩ := ha.form
 have HOK := hid hok
 clear hok
 have hb0 := (Below.refl w.heap.size w).alloc (Nat.le_refl _) (.cells #[.int .i64 s, .int .i64 b, .int .i64 c, .slice ao l.length cap] 83)
 have hm0 := MapI.made eI Tryz.prog 3 (w.alloc (.cells #[.int .i64 s, .int .i64 b, .int .i64 c, .slice ao l.length cap] 83))
 have hb1 := hb0.alloc hb0.size (.map #[] 0)
 have hmm := @run_makeMap Tryz.prog
 go_enter Tryz.func105, Tryz.ntmps105
 rw [show (w.alloc (.cells #[.int .i64 s, .int .i64 b, .int .i64 c, .slice ao l.length cap] 83)).heap.size = w.heap.size + 1 from by simp] at hm0
 go_wp2_with fail
 go_loopw [12] (fun i wr => ∃ k cnt : Nat, k ≤ l.length ∧ i = .int .i64 k ∧ (∀ j, j < k → stOk l j = true) ∧ MapI eI Tryz.prog 3 wr (w.heap.size + 1) k (valO (l.take k)) cnt ∧ Below w.heap.size w wr) (fun i _ => l.length - (intOf i).toNat)
 case atStart => exact ⟨0, 0, by omega, rfl, by omega, hm0, hb1⟩
 case round =>
  obtain ⟨k, cnt, hk, rfl, hst, hM, hb⟩ := hrel
  have HST := hid hst
  clear hst hm0 hb0 hb1
  by_cases hlt : k < l.length
  ·have hki : (k : Int) < (l.length : Int) := by omega
   obtain ⟨g, o, hao, c0, c1, c2⟩ := (ha.below hb).at hlt
   cases hao
   have HV : Hid (valO (l.take (k + 1)) = putF (valO (l.take k)) l[k].key l[k].val) := hid (by rw [take_snoc l k hlt, valO_snoc])
   have HS := hid (stOk_at hlt)
   have HNO := hid (fun h => steadyL_no hlt h)
   have hox := HOK.out l[k] (List.getElem_mem hlt)
   have hkey := inI_of hox.1
   generalize l[k] = x at *
   obtain ⟨wr', key, val⟩ := x
   simp only at c0 c1 c2 hkey
   have hM1 := hM.alloc (.cells #[.bool wr', .int .i64 key, .int .i64 val] 79)
   have hbb := hb.alloc hb.size (.cells #[.bool wr', .int .i64 key, .int .i64 val] 79)
   clear hox
   cases hv : valO (l.take k) key with
   | none =>
    have H : Hid (stOk l k = true) := hid (by rw [HS.out, valO_none hv])
    clear HNO
    go_wp2_with (first | (at_lookup; refine wpList_lookI_ok _ rfl _ _ 32 rfl 3 3 keyI mapII 0 (zeroI _) _ _ _ _ rfl hM1 _ rfl hkey ?_; rw [hv]) | (at_mapUpdate; refine wpList_putI _ rfl _ _ _ 32 rfl 3 3 keyI mapII _ _ _ _ rfl hM1 (by unfold maxLen; omega) _ rfl hkey val rfl ?_; intro w1 hM2 hg; go_frame) | go_in)
    have hb2 := hbb.grown hg hbb.size (fun j hj => by cases hj; omega)
    go_wp2_with fail
    go_roundw
    case rel => exact ⟨k + 1, _, by omega, by go_num, all_snoc HST.out H.out, by rw [HV.out]; exact hM2, hb2⟩
    case measure => simp [intOf]; omega
   | some v =>
    obtain ⟨p, hp, hpv⟩ := valO_some hv
    have HSP : Hid (stOk l k = (wr' || val == v)) := hid (by rw [HS.out, hp, ← hpv])
    clear HS hp hpv
    cases wr'
    ·by_cases hvv : val = v
     ·have H : Hid (stOk l k = true) := hid (by rw [HSP.out, hvv]; simp)
      have hne : (val != v) = false := by simp [hvv]
      clear HNO HSP hvv
      go_wp2_with (first | (at_lookup; refine wpList_lookI_ok _ rfl _ _ 32 rfl 3 3 keyI mapII 0 (zeroI _) _ _ _ _ rfl hM1 _ rfl hkey ?_; rw [hv]; simp only [Option.getD_some, Option.isSome_some, eI]) | (at_mapUpdate; refine wpList_putI _ rfl _ _ _ 32 rfl 3 3 keyI mapII _ _ _ _ rfl hM1 (by unfold maxLen; omega) _ rfl hkey val rfl ?_; intro w1 hM2 hg; go_frame) | go_in)
      have hb2 := hbb.grown hg hbb.size (fun j hj => by cases hj; omega)
      go_wp2_with fail
      go_roundw
      case rel => exact ⟨k + 1, _, by omega, by go_num, all_snoc HST.out H.out, by rw [HV.out]; exact hM2, hb2⟩
      case measure => simp [intOf]; omega
     ·have H : Hid (steadyL l = false) := hid (HNO.out (by rw [HSP.out]; simpa using hvv))
      have hne : (val != v) = true := by simpa using hvv
      clear HNO HSP hvv
      go_wp2_with (first | (at_lookup; refine wpList_lookI_ok _ rfl _ _ 32 rfl 3 3 keyI mapII 0 (zeroI _) _ _ _ _ rfl hM1 _ rfl hkey ?_; rw [hv]; simp only [Option.getD_some, Option.isSome_some, eI]) | go_in)
      go_ret
      exact ⟨ret_b H.out.symm, hbb⟩
    ·have H : Hid (stOk l k = true) := hid (by rw [HSP.out]; rfl)
     clear HNO HSP
     go_wp2_with (first | (at_lookup; refine wpList_lookI_ok _ rfl _ _ 32 rfl 3 3 keyI mapII 0 (zeroI _) _ _ _ _ rfl hM1 _ rfl hkey ?_; rw [hv]; simp only [Option.getD_some, Option.isSome_some, eI]) | (at_mapUpdate; refine wpList_putI _ rfl _ _ _ 32 rfl 3 3 keyI mapII _ _ _ _ rfl hM1 (by unfold maxLen; omega) _ rfl hkey val rfl ?_; intro w1 hM2 hg; go_frame) | go_in)
     have hb2 := hbb.grown hg hbb.size (fun j hj => by cases hj; omega)
     go_wp2_with fail
     go_roundw
     case rel => exact ⟨k + 1, _, by omega, by go_num, all_snoc HST.out H.out, by rw [HV.out]; exact hM2, hb2⟩
     case measure => simp [intOf]; omega
  ·have hkl : k = l.length := by omega
   have H : Hid (steadyL l = true) := hid (steadyL_all (by rw [← hkl]; exact HST.out))
   go_wp2_with fail
   go_ret
   exact ⟨ret_b H.out.symm, hb⟩
end

section
open Go.RowKit
theorem infoOp : (Tryz.prog.info? 79).map (fun i => (i.zero, i.size, i.bytes)) = some (some (.agg #[.bool false, .int .i64 0, .int .i64 0]), 3, 24) := by kernel_rfl
def Own (w : World) (base : Nat) (v : Value) (l : List OpV) : Prop := w.ownsRow base 79 3 v l.length (opV l)
theorem opV_app (l m : List OpV) : opV (l ++ m) = opV l ++ opV m := by simp [opV]
theorem opV_one (l : List OpV) : ∀ u ∈ opV l, u.oneCell' = true := by
 intro u hu
 unfold opV at hu
 obtain ⟨o, _, ho⟩ := List.mem_flatMap.1 hu
 simp at ho
 rcases ho with rfl | rfl | rfl <;> rfl
theorem opLit (w : World) (base : Nat) (o : OpV) (hb : base ≤ w.heap.size) : (w.alloc (.cells #[.bool o.wr, .int .i64 o.key, .int .i64 o.val] 79)).ownsRow base 79 3 (.slice (some ⟨w.heap.size, 0, none⟩) 1 1) 1 (opV [o]) :=
 World.ownsRow_lit (base := base) (size := 3) w #[.bool o.wr, .int .i64 o.key, .int .i64 o.val] 1 hb (by decide) rfl
theorem Own.ops {w : World} {base : Nat} {v : Value} {l : List OpV} (h : Own w base v l) : Ops w v l := Row.of_owns h
theorem Own.nil (w : World) (base : Nat) : Own w base (.slice none 0 0) [] := ⟨rfl, .inl ⟨rfl, rfl⟩⟩
theorem Own.below {w w' : World} {base : Nat} {v : Value} {l : List OpV} (h : Own w base v l) (hb : Below w.heap.size w w') : Own w' base v l := owns_below h hb
theorem Own.base {w : World} {base base' : Nat} {v : Value} {l : List OpV} (h : Own w base v l) (hb : base' ≤ base) : Own w base' v l := by
 obtain ⟨h1, h2⟩ := h
 refine ⟨h1, ?_⟩
 rcases h2 with h2 | ⟨g, cap, cur, e1, e2, r⟩
 ·exact .inl h2
 ·exact .inr ⟨g, cap, cur, e1, Nat.le_trans hb e2, r⟩
def rdK (l : List OpV) (k : Nat) : Option OpV := (firstO l k).filter fun o => !o.wr
def wrK (l : List OpV) (k : Nat) : Option OpV := lastW l k
def upTo (g : Nat → Option OpV) (n : Nat) : List OpV := (List.range n).filterMap g
theorem upTo_succ (g : Nat → Option OpV) (n : Nat) : upTo g (n + 1) = upTo g n ++ (g n).toList := by
 unfold upTo
 rw [List.range_succ, List.filterMap_append]
 cases h : g n <;> simp [h]
theorem upTo_len (g : Nat → Option OpV) (n : Nat) : (upTo g n).length ≤ n := by
 have := List.length_filterMap_le g (List.range n)
 unfold upTo; simpa using this
theorem upTo_mem {g : Nat → Option OpV} {n : Nat} {o : OpV} : o ∈ upTo g n ↔ ∃ k, k < n ∧ g k = some o := by
 unfold upTo; simp
theorem upTo_rise {g : Nat → Option OpV} (hg : ∀ k o, g k = some o → o.key = (k : Int)) : ∀ n, (upTo g n).Pairwise (fun a b => a.key < b.key)
 | 0 => by simp [upTo]
 | n + 1 => by
  rw [upTo_succ, List.pairwise_append]
  refine ⟨upTo_rise hg n, by cases g n <;> simp, fun a ha b hb => ?_⟩
  obtain ⟨k, hk, he⟩ := upTo_mem.1 ha
  have hb' : g n = some b := by simpa using hb
  rw [hg _ _ he, hg _ _ hb']; omega
theorem rdK_some {l : List OpV} {k : Nat} {o : OpV} : rdK l k = some o ↔ firstO l k = some o ∧ o.wr = false := by
 unfold rdK; rw [Option.filter_eq_some_iff]; simp
def refReads (l : List OpV) : List OpV := upTo (rdK l) 64
def refWrites (l : List OpV) : List OpV := upTo (wrK l) 64
def keysIn (l : List OpV) : Prop := ∀ o ∈ l, 0 ≤ o.key ∧ o.key < 64
theorem refReads_rise {l : List OpV} (h : keysIn l) : Rise (firstO l) false (refReads l) := by
 refine ⟨upTo_rise (fun k o hk => (firstO_key (rdK_some.1 hk).1).1) 64, fun o => ?_⟩
 unfold refReads
 rw [upTo_mem]
 constructor
 ·rintro ⟨k, _, hk⟩
  obtain ⟨h1, h2⟩ := rdK_some.1 hk
  rw [(firstO_key h1).1]; exact ⟨h1, h2⟩
 ·rintro ⟨h1, h2⟩
  obtain ⟨h3, h4⟩ := h o (firstO_key h1).2
  refine ⟨o.key.toNat, by omega, rdK_some.2 ⟨?_, h2⟩⟩
  rw [Int.toNat_of_nonneg h3]; exact h1
theorem refWrites_rise {l : List OpV} (h : keysIn l) : Rise (lastW l) true (refWrites l) := by
 refine ⟨upTo_rise (fun k o hk => (lastW_key hk).1) 64, fun o => ?_⟩
 unfold refWrites
 rw [upTo_mem]
 constructor
 ·rintro ⟨k, _, hk⟩
  have h1 : lastW l k = some o := hk
  rw [(lastW_key h1).1]; exact ⟨h1, (lastW_key h1).2.1⟩
 ·rintro ⟨h1, h2⟩
  obtain ⟨h3, h4⟩ := h o (lastW_key h1).2.2
  refine ⟨o.key.toNat, by omega, ?_⟩
  unfold wrK
  rw [Int.toNat_of_nonneg h3]; exact h1
theorem allM_keys {l : List OpV} (h : allM l = true) : keysIn l := fun o ho => by
 have := (mayO_iff o).1 (List.all_eq_true.1 h o ho)
 exact this.1
end

section
open Go.RowKit Go.Lib Go.Sort Go.Shelf
theorem nan_any (a : Int) (w : World) : Calls Tryz.prog 162 #[.int .i64 a] w fun e w' => e = .returned (.bool false) ∧ w = w' := by
 go_enter Tryz.func162, Tryz.ntmps162
 go_wp2_with fail
 go_ret
 exact ⟨rfl, rfl⟩
theorem compare_any (a b : Int) (w : World) : Calls Tryz.prog 127 #[.int .i64 a, .int .i64 b] w fun e w' => e = .returned (.int .i64 (compareInt a b)) ∧ w = w' := by
 have CA := hid (nan_any a w)
 have CB := hid (nan_any b w)
 have H1 : Hid (a < b → (-1 : Int) = compareInt a b) := hid (fun h => by unfold compareInt; simp [h])
 have H2 : Hid (¬ a < b → b < a → (1 : Int) = compareInt a b) := hid (fun h h' => by unfold compareInt; simp [h, h'])
 have H3 : Hid (¬ a < b → ¬ b < a → (0 : Int) = compareInt a b) := hid (fun h h' => by unfold compareInt; simp [h, h'])
 go_enter Tryz.func127, Tryz.ntmps127
 go_wp2_with fail
 refine (CA.out).mono ?_
 rintro e w1 ⟨rfl, rfl⟩
 go_wp2_with fail
 refine (CB.out).mono ?_
 rintro e w1 ⟨rfl, rfl⟩
 by_cases h1 : a < b
 ·have H := hid (H1.out h1)
  clear H1 H2 H3 CA CB
  go_wp2_with fail
  go_ret
  exact ⟨ret_i H.out, rfl⟩
 ·by_cases h2 : b < a
  ·have H := hid (H2.out (by omega) h2)
   clear H1 H2 H3 CA CB
   go_wp2_with fail
   go_ret
   exact ⟨ret_i H.out, rfl⟩
  ·have H := hid (H3.out (by omega) (by omega))
   clear H1 H2 H3 CA CB
   go_wp2_with fail
   go_ret
   exact ⟨ret_i H.out, rfl⟩
def encO (o : OpV) : List Value := [.bool o.wr, .int .i64 o.key, .int .i64 o.val]
def cmpO (x y : OpV) : Int := compareInt x.key y.key
instance : Inhabited OpV := ⟨opZ⟩
theorem cmp_lt (x y : OpV) : ltOf cmpO x y = decide (x.key < y.key) := by
 unfold ltOf cmpO compareInt
 by_cases h1 : x.key < y.key
 ·simp [h1]
 ·by_cases h2 : y.key < x.key <;> simp [h1, h2]
theorem cmp_swo : SWO (ltOf cmpO) where
 irrefl x := by rw [cmp_lt]; simp
 trans x y z h1 h2 := by rw [cmp_lt] at *; simp at *; omega
 ntrans x y z h1 h2 := by rw [cmp_lt] at *; simp at *; omega
theorem closure_any (x y : OpV) (w : World) : Calls Tryz.prog 185 #[.agg #[.bool x.wr, .int .i64 x.key, .int .i64 x.val], .agg #[.bool y.wr, .int .i64 y.key, .int .i64 y.val]] w fun e w' => e = .returned (.int .i64 (cmpO x y)) ∧ ∃ q os', w' = grow (w.drewN q) os' := by
 obtain ⟨xw, xk, xv⟩ := x
 obtain ⟨yw, yk, yv⟩ := y
 have CC := fun w => hid (compare_any xk yk w)
 show Calls _ _ _ _ fun e w' => e = .returned (.int .i64 (compareInt xk yk)) ∧ _
 generalize compareInt xk yk = r at *
 go_enter Tryz.func185, Tryz.ntmps185
 go_wp2_with fail
 refine ((CC _).out).mono ?_
 rintro e w' ⟨rfl, rfl⟩
 go_wp2_with fail
 go_ret
 exact ⟨rfl, 0, _, by rw [alloc_eq_grow, alloc_eq_grow, grow_grow]; rfl⟩
theorem cmp_lays (blk off size : Nat) (w : World) : CmpLays Tryz.prog 185 #[] encO 3 cmpO blk off size w := fun _ _ _ _ x y => closure_any x y _
theorem sort_any (blk off cap : Nat) (d : Array OpV) (w : World) (hH : HoldsK encO 3 w blk off d) (hblk : blk < w.heap.size) (hsz : d.size < 4611686018427387904) :
  Calls Tryz.prog 184 #[.slice (some ⟨blk, off, none⟩) d.size cap, .func (.func 185) #[] #[]] w fun e w' => e = .returned (.tuple #[]) ∧ ∃ d' n os, PermIn 0 d.size d d' ∧ SortedIn (ltOf cmpO) 0 d.size d' ∧ w' = sortWorldK encO 3 w blk off n d' os := by
 have eg : ∀ args w, (callFunc 185 args).run Tryz.prog w = .ok (.enter 185 args) w := enters_of Tryz.func185 (by kernel_rfl) rfl
 exact AnyQ.slices_SortFunc Tryz.sortOp 3 Tryz.isAgg79 Tryz.sizeOf79 encO (fun _ => rfl) (fun x v hv => by simp [encO] at hv; rcases hv with rfl | rfl | rfl <;> rfl) cmpO cmp_swo 185 #[] blk off cap d w eg (cmp_lays blk off d.size w) hH hblk hsz
theorem insNone (p : Option Addr) (cap : Nat) (fv : Value) (w : World) : Calls Tryz.prog 268 #[.slice p 0 cap, .int .i64 0, .int .i64 0, fv] w fun e w' => e = .returned (.tuple #[]) ∧ w = w' := by
 go_enter Tryz.func268, Tryz.ntmps268
 go_wp2_with fail
 refine wp_loop_rounds 1 ?_
 rw [rounds_succ]
 go_wp2_with fail
 go_end0
 exact ⟨rfl, rfl⟩
theorem pdqNone (p : Option Addr) (cap : Nat) (lim : Int) (fv : Value) (w : World) : Calls Tryz.prog 239 #[.slice p 0 cap, .int .i64 0, .int .i64 0, .int .i64 lim, fv] w fun e w' => e = .returned (.tuple #[]) ∧ w = w' := by
 have CI := hid (fun w => insNone p cap fv w)
 go_enter Tryz.func239, Tryz.ntmps239
 go_wp2_with fail
 refine wp_loop_rounds 1 ?_
 rw [rounds_succ]
 go_wp2_with fail
 refine (CI.out _).mono ?_
 rintro e w' ⟨rfl, rfl⟩
 go_wp2_with fail
 (try simp only [Exit.inBlock, Exit.then]); refine bodyPost_ret (results_none rfl _ _ _) rfl ?_
 exact ⟨rfl, rfl⟩
theorem sort_none (p : Option Addr) (cap : Nat) (fv : Value) (w : World) : Calls Tryz.prog 184 #[.slice p 0 cap, fv] w fun e w' => e = .returned (.tuple #[]) ∧ w = w' := by
 have CP := hid (fun lim w => pdqNone p cap lim fv w)
 have hl : ∀ W, Calls Tryz.prog 161 #[.int .u64 0] W fun e w' => e = .returned (.int .i64 (Lib.bitLen 0 : Nat)) ∧ w' = W := fun W =>
  Any.bits_Len (SlLaysF0.n15.bits (P := Tryz.prog) (ρ := Tryz.sortOp_ren) { Tryz.sortOp with }) 0 W (by omega) (by omega)
 have CL := hid hl
 clear hl
 go_enter Tryz.func184, Tryz.ntmps184
 go_wp2_with fail
 refine (CL.out _).mono ?_
 rintro e w' ⟨rfl, rfl⟩
 go_wp2_with fail
 refine (CP.out _ _).mono ?_
 rintro e w' ⟨rfl, rfl⟩
 go_wp2_with fail
 go_end0
 exact ⟨rfl, rfl⟩
end

section
open Go.RowKit Go.Lib Go.Sort Go.Shelf
theorem flat_opV (l : List OpV) : flatK encO 3 l.toArray = (opV l).toArray := by
 apply Array.ext
 ·simp [opV_len]
 ·intro t h1 h2
  have ht : t < l.length * 3 := by simpa using h1
  have hk : t / 3 < l.length := by omega
  obtain ⟨e0, e1, e2⟩ := opV_at l (t / 3) hk
  have hx : l.toArray[t / 3]! = l[t / 3] := by simp [hk]
  have h3 : (flatK encO 3 l.toArray)[t]! = (encO l[t / 3])[t % 3]! := by rw [get_flatK _ _ _ t (by simpa using ht), hx]
  rw [← getElem!_pos _ t h1, h3]
  have hm3 : t % 3 = 0 ∨ t % 3 = 1 ∨ t % 3 = 2 := by omega
  have hr : ∀ x, (opV l)[t]? = some x → (opV l).toArray[t] = x := fun x hx => by
   have := List.getElem?_eq_some_iff.1 hx
   simpa using this.2
  rcases hm3 with h | h | h
  ·rw [hr _ (by rw [show t = t / 3 * 3 from by omega]; exact e0), h]; rfl
  ·rw [hr _ (by rw [show t = t / 3 * 3 + 1 from by omega]; exact e1), h]; rfl
  ·rw [hr _ (by rw [show t = t / 3 * 3 + 2 from by omega]; exact e2), h]; rfl
theorem holds_cells {w : World} {g : Nat} {cur : Array Value} {e : TypeId} {cs : List Value} (hb : w.heap[g]? = some (.cells cur e (0, 0))) (ht : cur.toList.take cs.length = cs) : Holds id w g 0 cs.toArray := by
 intro j hj
 have hj' : j < cs.length := by simpa using hj
 refine ⟨?_, by simp [World.frozen?, hb]⟩
 have h1 : (cur.toList.take cs.length)[j]? = cs[j]? := by rw [ht]
 rw [List.getElem?_take_of_lt hj'] at h1
 simp only [World.cell?, hb, Nat.zero_add]
 simp only [Option.isSome_none, Bool.false_eq_true, if_false]
 rw [← Array.getElem?_toList, h1]
 simp [hj']
theorem heap_grown {w : World} {os : Array Obj} {k : Nat} (h : k < w.heap.size) : (grow w os).heap[k]? = w.heap[k]? := by
 show (w.heap ++ os)[k]? = _
 rw [Array.getElem?_append_left h]
theorem take_put (cur : Array Value) (cs : List Value) (h : cs.length ≤ cur.size) : (putCells id 0 cs.toArray cur).toList.take cs.length = cs := by
 apply List.ext_getElem?
 intro j
 by_cases hj : j < cs.length
 ·rw [List.getElem?_take_of_lt hj, Array.getElem?_toList]
  simp [putCells, hj, show j < cur.size by omega]
 ·rw [List.getElem?_take_eq_none (by omega), List.getElem?_eq_none (by omega)]
theorem own_sorted {w : World} {base g cap n : Nat} {os : Array Obj} {l ts : List OpV} (hl : ts.length = l.length) (h : Own w base (.slice (some ⟨g, 0, none⟩) l.length cap) l) :
  Own (sortWorldK encO 3 w g 0 n ts.toArray os) base (.slice (some ⟨g, 0, none⟩) l.length cap) ts ∧ w.grownBy (sortWorldK encO 3 w g 0 n ts.toArray os) (some g) := by
 obtain ⟨h1, h2⟩ := h
 rcases h2 with ⟨h2, _⟩ | ⟨g', cap', cur, e1, e2, hb, e3, e4, e5, e6⟩
 ·cases h2
 cases e1
 have hg : g < w.heap.size := (Array.getElem?_eq_some_iff.1 hb).1
 have ew : sortWorldK encO 3 w g 0 n ts.toArray os = grow (putRow id (Sort.ahead w n) g 0 (opV ts).toArray) os := by
  unfold sortWorldK putRowK; rw [flat_opV]
 rw [ew]
 have hh : (grow (putRow id (Sort.ahead w n) g 0 (opV ts).toArray) os).heap[g]? = some (.cells (putCells id 0 (opV ts).toArray cur) 79 (0, 0)) := by
  rw [heap_grown (by simpa using hg)]
  simp [putRow, mapBlock, Sort.ahead, Array.getElem?_modify, hb, onCells]
 refine ⟨⟨by rw [opV_len], .inr ⟨g, cap, _, by rw [hl], e2, hh, by omega, e4, by simp [putCells, e5], ?_⟩⟩, rfl, rfl, rfl, by simp, fun k hk hne => ?_⟩
 ·have := take_put cur (opV ts) (by rw [opV_len]; have := opV_len l; omega)
  rwa [opV_len] at this
 ·rw [heap_grown (by simpa using hk)]
  have : g ≠ k := fun e => hne (by rw [e])
  simp [putRow, mapBlock, Sort.ahead, Array.getElem?_modify, this]
theorem own_holds {w : World} {base g cap : Nat} {l : List OpV} (h : Own w base (.slice (some ⟨g, 0, none⟩) l.length cap) l) : HoldsK encO 3 w g 0 l.toArray ∧ g < w.heap.size ∧ base ≤ g := by
 obtain ⟨h1, h2⟩ := h
 rcases h2 with ⟨h2, _⟩ | ⟨g', cap', cur, e1, e2, hb, e3, e4, e5, e6⟩
 ·cases h2
 cases e1
 refine ⟨?_, (Array.getElem?_eq_some_iff.1 hb).1, e2⟩
 show Holds id w g 0 _
 rw [flat_opV]
 exact holds_cells hb (by rw [opV_len]; exact e6)
theorem extract_all {α : Type} (d : Array α) : (d.extract 0 d.size).toList = d.toList := by simp
theorem sort_rise {f : Int → Option OpV} {wr : Bool} {acc : List OpV} {d' : Array OpV} (hm : ∀ o, o ∈ acc ↔ (f o.key = some o ∧ o.wr = wr)) (hnd : acc.Pairwise (fun a b => a.key ≠ b.key))
  (hp : PermIn 0 acc.toArray.size acc.toArray d') (hs : SortedIn (ltOf cmpO) 0 acc.toArray.size d') : d'.toList.length = acc.length ∧ Rise f wr d'.toList := by
 obtain ⟨hsz, _, hperm⟩ := hp
 have hp2 : d'.toList.Perm acc := by
  rw [← hsz] at hperm
  rw [extract_all] at hperm
  rw [show (acc.toArray.extract 0 d'.size).toList = acc from by rw [hsz]; simp] at hperm
  exact hperm
 have hlen : d'.toList.length = acc.length := hp2.length_eq
 refine ⟨hlen, ?_, fun o => hp2.mem_iff.trans (hm o)⟩
 have hnd' : d'.toList.Pairwise (fun a b => a.key ≠ b.key) := (hp2.pairwise_iff (fun {a b} h => Ne.symm h)).2 hnd
 rw [List.pairwise_iff_getElem] at hnd' ⊢
 intro i j hi hj hij
 have h1 := hnd' i j hi hj hij
 have hj' : j < d'.size := by simpa using hj
 have hi' : i < d'.size := by simpa using hi
 have h2 := hs i j (Nat.zero_le _) hij (by rw [← hsz]; exact hj')
 rw [cmp_lt, getElem!_pos d' i hi', getElem!_pos d' j hj'] at h2
 have h3 : ¬ d'[j].key < d'[i].key := by simpa using h2
 simp only [Array.getElem_toList] at h1 ⊢
 omega
def Got (f : Int → Option OpV) (wr : Bool) (left : Int → Bool) (acc : List OpV) : Prop :=
 acc.Pairwise (fun a b => a.key ≠ b.key) ∧ ∀ o, o ∈ acc ↔ (f o.key = some o ∧ o.wr = wr ∧ left o.key = false)
theorem Got.start (f : Int → Option OpV) (wr : Bool) : Got f wr (fun x => (f x).isSome) [] := by
 refine ⟨List.Pairwise.nil, fun o => ⟨fun h => (by cases h), fun ⟨h1, _, h3⟩ => ?_⟩⟩
 simp only [h1, Option.isSome_some] at h3; cases h3
theorem Got.yes {f : Int → Option OpV} {wr : Bool} {left : Int → Bool} {acc : List OpV} (h : Got f wr left acc) {u : OpV} (hl : left u.key = true) (hu : f u.key = some u) (hw : u.wr = wr) :
  Got f wr (fun y => left y && !decide (y = u.key)) (acc ++ [u]) := by
 obtain ⟨h1, h2⟩ := h
 refine ⟨List.pairwise_append.2 ⟨h1, by simp, fun a ha b hb => ?_⟩, fun o => ?_⟩
 ·simp at hb; subst hb
  have := (h2 a).1 ha
  intro e
  rw [e, hl] at this
  cases this.2.2
 ·rw [List.mem_append, h2 o]
  simp only [List.mem_singleton, Bool.and_eq_false_iff, Bool.not_eq_false', decide_eq_true_eq]
  constructor
  ·rintro (⟨e1, e2, e3⟩ | rfl)
   ·exact ⟨e1, e2, .inl e3⟩
   ·exact ⟨hu, hw, .inr rfl⟩
  ·rintro ⟨e1, e2, e3 | e3⟩
   ·exact .inl ⟨e1, e2, e3⟩
   ·rw [e3, hu] at e1; exact .inr (Option.some.inj e1).symm
theorem Got.no {f : Int → Option OpV} {wr : Bool} {left : Int → Bool} {acc : List OpV} (h : Got f wr left acc) {u : OpV} (hu : f u.key = some u) (hw : ¬ u.wr = wr) :
  Got f wr (fun y => left y && !decide (y = u.key)) acc := by
 obtain ⟨h1, h2⟩ := h
 refine ⟨h1, fun o => ?_⟩
 rw [h2 o]
 simp only [Bool.and_eq_false_iff, Bool.not_eq_false', decide_eq_true_eq]
 constructor
 ·rintro ⟨e1, e2, e3⟩; exact ⟨e1, e2, .inl e3⟩
 ·rintro ⟨e1, e2, e3 | e3⟩
  ·exact ⟨e1, e2, e3⟩
  ·rw [e3, hu] at e1
   cases e1; exact absurd e2 hw
end

section
open Go.RowKit Go.Lib Go.Sort Go.Shelf
theorem mapIO : Tryz.prog.underlying 218 = some (.map 3 79) := Tryz.underlying218
theorem zeroO (w : World) : (zeroValue 79).run Tryz.prog w = .ok (eO opZ) w := by kernel_rfl
theorem Own.split {w : World} {base : Nat} {v : Value} {l : List OpV} (h : Own w base v l) : (v = .slice none 0 0 ∧ l = []) ∨ ∃ g cap, v = .slice (some ⟨g, 0, none⟩) l.length cap ∧ base ≤ g := by
 obtain ⟨_, h2⟩ := h
 rcases h2 with ⟨e1, e2⟩ | ⟨g, cap, cur, e1, e2, _⟩
 ·exact .inl ⟨e1, List.eq_nil_of_length_eq_zero e2⟩
 ·exact .inr ⟨g, cap, e1, e2⟩
theorem below_own {w w1 w2 : World} {base : Nat} {v : Value} {l : List OpV} (hb : Below w.heap.size w w1) (hO : Own w1 base v l) (hbase : w.heap.size ≤ base) (hg : w1.grownBy w2 v.ownBlock) : Below w.heap.size w w2 :=
 hb.grown hg hb.size (fun j hj => by
  rcases hO.split with ⟨e, _⟩ | ⟨g, cap, e, hg'⟩
  ·rw [e] at hj; cases hj
  ·rw [e] at hj; have : g = j := (by simpa [Value.ownBlock] using hj); omega)
theorem own_ne {w1 : World} {base b : Nat} {v : Value} {l : List OpV} (hO : Own w1 base v l) (hb : b < base) : some b ≠ v.ownBlock := by
 rcases hO.split with ⟨e, _⟩ | ⟨g, cap, e, hg'⟩
 ·rw [e]; simp [Value.ownBlock]
 ·rw [e]; intro h; have : b = g := (by simpa [Value.ownBlock] using h); omega
theorem rising_any (b n c : Nat) (f : Int → Option OpV) (wt : Bool) (w : World) (hM : MapI eO Tryz.prog 3 w b n f c) (hf : ∀ x o, f x = some o → o.key = x ∧ InI x) (hc : c ≤ 100000) :
  Calls Tryz.prog 145 #[.map (some b), .bool wt] w fun e w' => ∃ v out, e = .returned v ∧ Own w' w.heap.size v out ∧ Rise f wt out ∧ out.length ≤ c ∧ Below w.heap.size w w' := by
 obtain ⟨i0, hi, hz0, hz1, hz2⟩ := info_parts infoOp
 have HF := hid hf
 have hbm := hM.lt
 clear hf
 go_enter Tryz.func145, Tryz.ntmps145
 go_wp2_with (first | (at_range; refine wpList_rangeI _ rfl _ 218 rfl 3 79 keyI mapIO _ _ _ _ rfl hM ?_; intro w0 hR0 hg0 hs0) | go_in)
 go_frame
 have hb0 := (Below.refl w.heap.size w).grown hg0 (Nat.le_refl _) (fun j hj => by cases hj)
 go_loopw [5] (fun v wr' => ∃ left cnt acc, RangeI eO Tryz.prog 3 wr' b w.heap.size n f left cnt ∧ Own wr' (w.heap.size + 1) v acc ∧ acc.length + cnt ≤ c ∧ Got f wt left acc ∧ Below w.heap.size w wr') (fun _ wr' => wr'.rangeLeft b w.heap.size)
 case atStart => exact ⟨_, _, [], hR0, Own.nil _ _, by simp, Got.start f wt, hb0⟩
 case round =>
  obtain ⟨left, cnt, acc, hR, hO, hl, hG, hb⟩ := hrel
  clear hM hR0 hg0 hb0
  go_wp2_with (first | (at_next; refine wpList_nextI _ rfl _ rfl 3 keyI eO_inj _ _ _ _ _ _ rfl hR ?_ ?_) | go_in)
  ·intro hc0 hl0
   have hmem : Hid (∀ o, o ∈ acc ↔ (f o.key = some o ∧ o.wr = wt)) := hid (fun o => (hG.2 o).trans ⟨fun ⟨h1, h2, _⟩ => ⟨h1, h2⟩, fun ⟨h1, h2⟩ => ⟨h1, h2, hl0 _ (HF.out _ _ h1).2⟩⟩)
   have hnd := hid hG.1
   clear hG hl0 hR
   rcases hO.split with ⟨rfl, rfl⟩ | ⟨g, cap, rfl, hbg⟩
   ·go_wp2_with fail
    refine (sort_none _ _ _ _).mono ?_
    rintro e w1 ⟨rfl, rfl⟩
    go_wp2_with fail
    go_ret
    exact ⟨_, [], rfl, Own.nil _ _, ⟨List.Pairwise.nil, hmem.out⟩, by simp, hb⟩
   ·have hH := hid (own_holds hO)
    have HO := hid hO
    clear hO
    go_wp2_with fail
    refine (sort_any g 0 cap acc.toArray wr hH.out.1 hH.out.2.1 (by simp; omega)).mono ?_
    rintro e w1 ⟨rfl, d', m, os, hp, hs, rfl⟩
    obtain ⟨hlen, hrise⟩ := sort_rise hmem.out hnd.out hp hs
    have hown := own_sorted (n := m) (os := os) hlen HO.out
    have hb1 := hb.grown hown.2 hb.size (fun j hj => by cases hj; omega)
    have hO1 := hid (hown.1.base (show w.heap.size ≤ w.heap.size + 1 by omega))
    clear hown hp hs
    generalize sortWorldK encO 3 wr g 0 m d'.toList.toArray os = w1 at *
    go_wp2_with fail
    go_ret
    exact ⟨_, _, rfl, hO1.out, hrise, by rw [hlen]; omega, hb1⟩
  ·intro x u w1 cnt1 hx hlx hfu hR1 hlt1 hg1 hs1 hen
   obtain ⟨hux, _⟩ := HF.out _ _ hfu
   subst hux
   have hb1 := hb.grown hg1 hb.size (fun j hj => by cases hj; omega)
   have hO1 : Own w1 (w.heap.size + 1) u5 acc := World.ownsRow.kept hO hg1 (.inr (own_ne hO (Nat.lt_succ_self _)).symm)
   have GY := hid (fun h => hG.yes hlx hfu h)
   have GN := hid (fun h => hG.no hfu h)
   have hle := hR.left_eq
   clear hO hR hG hlx hfu hb hx
   obtain ⟨uw, uk, uv⟩ := u
   change Sem.run _ _ _ = Result.ok (Value.tuple #[.int .i64 uk, .agg #[.bool uw, .int .i64 uk, .int .i64 uv]]) _ at hen
   simp only [eO, OpV.v]
   have hR2 := hR1.alloc (.cells #[.bool uw, .int .i64 uk, .int .i64 uv] 79)
   have hO2 := World.ownsRow.alloc hO1 (.cells #[.bool uw, .int .i64 uk, .int .i64 uv] 79)
   have hb2 := hb1.alloc hb1.size (.cells #[.bool uw, .int .i64 uk, .int .i64 uv] 79)
   by_cases hw : uw = wt
   ·subst hw
    have hw' : (uw == uw) = true := by simp
    have G := hid (GY.out rfl)
    have hx := opBlock w1 (.bool uw) (.int .i64 uk) (.int .i64 uv) 79
    have hws := hb1.size
    have hlit := opLit (w1.alloc (.cells #[.bool uw, .int .i64 uk, .int .i64 uv] 79)) 0 ⟨uw, uk, uv⟩ (Nat.zero_le _)
    rw [show (w1.alloc (.cells #[.bool uw, .int .i64 uk, .int .i64 uv] 79)).heap.size = w1.heap.size + 1 from by simp] at hlit
    clear GY GN hR1 hO1 hb1 hs1
    go_wp2_with (first | (at_builtin; go_loud (refine wpList_append_row rfl _ _ 81 rfl (w.heap.size + 1) 79 i0 (.agg #[.bool false, .int .i64 0, .int .i64 0]) 3 24 Tryz.underlying81 hi hz0 hz1 hz2 rfl (by decide) _ _ _ rfl (hO2.alloc _) _ 1 _ rfl (Row.of_owns hlit) ?d1 ?d2 ?d3 ?d4 ?_)) | go_in)
    case d1 => exact opV_one _
    case d2 => unfold maxLen; omega
    case d3 => omega
    case d4 => first | omega | (simp; omega)
    intro v6 w6 hown6 hg6
    clear hlit
    have hO3 : Own _ _ _ (acc ++ [⟨uw, uk, uv⟩]) := ⟨by rw [opV_len], by rw [opV_app]; simpa using hown6.2⟩
    have hg3 := hg6
    have hR3 := (hR2.alloc (.cells #[.bool uw, .int .i64 uk, .int .i64 uv] 79)).kept hg6 (own_ne hO2 (by omega)) (own_ne hO2 (by omega))
    have hb3 := below_own (hb2.alloc hb2.size (.cells #[.bool uw, .int .i64 uk, .int .i64 uv] 79)) (hO2.alloc (.cells #[.bool uw, .int .i64 uk, .int .i64 uv] 79)) (by omega) hg6
    clear hown6 hg6 hR2 hb2 hO2
    go_wp2_with fail
    go_roundw
    case rel => exact ⟨_, _, _, hR3, hO3, by simp; omega, G.out, hb3⟩
    case measure => rw [hR3.left_eq, hle]; exact hlt1
   ·have hw' : (uw == wt) = false := by simpa using hw
    have G := hid (GN.out hw)
    clear GY GN hw
    go_wp2_with fail
    go_roundw
    case rel => exact ⟨_, _, _, hR2, hO2, by omega, G.out, hb2⟩
    case measure => rw [hR2.left_eq, hle]; exact hlt1
end

section
open Go.RowKit
theorem MapI.le {α : Type} {e : α → Value} {P : Program} {k : TypeId} {w : World} {b n : Nat} {f : Int → Option α} {c : Nat} (h : MapI e P k w b n f c) : c ≤ n := by
 obtain ⟨D, h, hs, _⟩ := h
 have := h.size_le
 omega
theorem reads_any (s b c : Int) (va : Value) (l : List OpV) (w : World) (ha : Ops w va l) (hok : ∀ o ∈ l, o.ok) (hlen : l.length ≤ 100000) :
  Calls Tryz.prog 104 #[.agg #[.int .i64 s, .int .i64 b, .int .i64 c, va]] w fun e w' => ∃ v out, e = .returned v ∧ Own w' w.heap.size v out ∧ Rise (firstO l) false out ∧ out.length ≤ l.length ∧ Below w.heap.size w w' := by
 obtain ⟨ao, cap, rfl, hal⟩ := ha.form
 have HOK := hid hok
 clear hok
 have hb0 := (Below.refl w.heap.size w).alloc (Nat.le_refl _) (.cells #[.int .i64 s, .int .i64 b, .int .i64 c, .slice ao l.length cap] 83)
 have hm0 := MapI.made eO Tryz.prog 3 (w.alloc (.cells #[.int .i64 s, .int .i64 b, .int .i64 c, .slice ao l.length cap] 83))
 have hb1 := hb0.alloc hb0.size (.map #[] 0)
 have hmm := @run_makeMap Tryz.prog
 rw [show (w.alloc (.cells #[.int .i64 s, .int .i64 b, .int .i64 c, .slice ao l.length cap] 83)).heap.size = w.heap.size + 1 from by simp] at hm0
 go_enter Tryz.func104, Tryz.ntmps104
 go_wp2_with fail
 go_loopw [12] (fun i wr => ∃ k cnt : Nat, k ≤ l.length ∧ i = .int .i64 k ∧ MapI eO Tryz.prog 3 wr (w.heap.size + 1) k (firstO (l.take k)) cnt ∧ Below w.heap.size w wr) (fun i _ => l.length - (intOf i).toNat)
 case atStart => exact ⟨0, 0, by omega, rfl, hm0, hb1⟩
 case round =>
  obtain ⟨k, cnt, hk, rfl, hM, hb⟩ := hrel
  clear hm0 hb0 hb1
  by_cases hlt : k < l.length
  ·have hki : (k : Int) < (l.length : Int) := by omega
   obtain ⟨g, o, hao, c0, c1, c2⟩ := (ha.below hb).at hlt
   cases hao
   have HS : Hid (firstO (l.take (k + 1)) = if (firstO (l.take k) l[k].key).isSome then firstO (l.take k) else putF (firstO (l.take k)) l[k].key l[k]) := hid (by rw [take_snoc l k hlt, firstO_snoc])
   have hox := HOK.out l[k] (List.getElem_mem hlt)
   have hkey := inI_of hox.1
   generalize l[k] = x at *
   obtain ⟨wr', key, val⟩ := x
   simp only at c0 c1 c2 hkey
   have hM1 := hM.alloc (.cells #[.bool wr', .int .i64 key, .int .i64 val] 79)
   have hbb := hb.alloc hb.size (.cells #[.bool wr', .int .i64 key, .int .i64 val] 79)
   have hszb := hb.size
   clear hox hM hb
   cases hv : firstO (l.take k) key with
   | none =>
    simp only [hv, Option.isSome_none, Bool.false_eq_true, if_false] at HS
    have hM2 := hM1.alloc (.cells #[.bool false, .int .i64 0, .int .i64 0] 79)
    have hb2 := hbb.alloc hbb.size (.cells #[.bool false, .int .i64 0, .int .i64 0] 79)
    go_wp2_with (first | (at_lookup; refine wpList_lookI_ok _ rfl _ _ 218 rfl 3 79 keyI mapIO opZ (zeroO _) _ _ _ _ rfl hM1 _ rfl hkey ?_; rw [hv]; simp only [Option.getD_none, Option.isSome_none, eO, OpV.v, opZ]) | (at_mapUpdate; refine wpList_putI _ rfl _ _ _ 218 rfl 3 79 keyI mapIO _ _ _ _ rfl hM2 (by unfold maxLen; omega) _ rfl hkey ⟨wr', key, val⟩ rfl ?_; intro w1 hM3 hg; go_frame) | go_in)
    have hb3 := hb2.grown hg hb2.size (fun j hj => by cases hj; omega)
    go_wp2_with fail
    go_roundw
    case rel => exact ⟨k + 1, _, by omega, by go_num, by rw [HS.out]; exact hM3, hb3⟩
    case measure => simp [intOf]; omega
   | some v =>
    simp only [hv, Option.isSome_some, if_true] at HS
    obtain ⟨vw, vk, vv⟩ := v
    have hM2 := hM1.alloc (.cells #[.bool vw, .int .i64 vk, .int .i64 vv] 79)
    have hb2 := hbb.alloc hbb.size (.cells #[.bool vw, .int .i64 vk, .int .i64 vv] 79)
    go_wp2_with (first | (at_lookup; refine wpList_lookI_ok _ rfl _ _ 218 rfl 3 79 keyI mapIO opZ (zeroO _) _ _ _ _ rfl hM1 _ rfl hkey ?_; rw [hv]; simp only [Option.getD_some, Option.isSome_some, eO, OpV.v]) | go_in)
    go_roundw
    case rel => exact ⟨k + 1, _, by omega, by go_num, by rw [HS.out]; exact hM2.mono (by omega), hb2⟩
    case measure => simp [intOf]; omega
  ·have hkl : k = l.length := by omega
   subst hkl
   rw [List.take_length] at hM
   have HR := hid (rising_any (w.heap.size + 1) l.length cnt (firstO l) false wr hM (fun x o h => ⟨(firstO_key h).1, inI_of (by rw [← (firstO_key h).1]; exact (HOK.out o (firstO_key h).2).1)⟩) (Nat.le_trans hM.le hlen))
   have hcl := hM.le
   clear hM
   go_wp2_with fail
   refine (HR.out).mono ?_
   rintro e w1 ⟨v, out, rfl, hO, hR, hl, hb1⟩
   have hb2 := below_then hb hb1
   have hO2 := hid (hO.base hb.size)
   have HRise := hid hR
   clear hO hb1 hb HR hR
   go_wp2_with fail
   go_ret
   exact ⟨_, _, rfl, hO2.out, HRise.out, by omega, hb2⟩
theorem writes_any (s b c : Int) (va : Value) (l : List OpV) (w : World) (ha : Ops w va l) (hok : ∀ o ∈ l, o.ok) (hlen : l.length ≤ 100000) :
  Calls Tryz.prog 103 #[.agg #[.int .i64 s, .int .i64 b, .int .i64 c, va]] w fun e w' => ∃ v out, e = .returned v ∧ Own w' w.heap.size v out ∧ Rise (lastW l) true out ∧ out.length ≤ l.length ∧ Below w.heap.size w w' := by
 obtain ⟨ao, cap, rfl, hal⟩ := ha.form
 have HOK := hid hok
 clear hok
 have hb0 := (Below.refl w.heap.size w).alloc (Nat.le_refl _) (.cells #[.int .i64 s, .int .i64 b, .int .i64 c, .slice ao l.length cap] 83)
 have hm0 := MapI.made eO Tryz.prog 3 (w.alloc (.cells #[.int .i64 s, .int .i64 b, .int .i64 c, .slice ao l.length cap] 83))
 have hb1 := hb0.alloc hb0.size (.map #[] 0)
 have hmm := @run_makeMap Tryz.prog
 rw [show (w.alloc (.cells #[.int .i64 s, .int .i64 b, .int .i64 c, .slice ao l.length cap] 83)).heap.size = w.heap.size + 1 from by simp] at hm0
 go_enter Tryz.func103, Tryz.ntmps103
 go_wp2_with fail
 go_loopw [10] (fun i wr => ∃ k cnt : Nat, k ≤ l.length ∧ i = .int .i64 k ∧ MapI eO Tryz.prog 3 wr (w.heap.size + 1) k (lastW (l.take k)) cnt ∧ Below w.heap.size w wr) (fun i _ => l.length - (intOf i).toNat)
 case atStart => exact ⟨0, 0, by omega, rfl, hm0, hb1⟩
 case round =>
  obtain ⟨k, cnt, hk, rfl, hM, hb⟩ := hrel
  clear hm0 hb0 hb1
  by_cases hlt : k < l.length
  ·have hki : (k : Int) < (l.length : Int) := by omega
   obtain ⟨g, o, hao, c0, c1, c2⟩ := (ha.below hb).at hlt
   cases hao
   have HS : Hid (lastW (l.take (k + 1)) = if l[k].wr then putF (lastW (l.take k)) l[k].key l[k] else lastW (l.take k)) := hid (by rw [take_snoc l k hlt, lastW_snoc])
   have hox := HOK.out l[k] (List.getElem_mem hlt)
   have hkey := inI_of hox.1
   generalize l[k] = x at *
   obtain ⟨wr', key, val⟩ := x
   simp only at c0 c1 c2 hkey
   have hM1 := hM.alloc (.cells #[.bool wr', .int .i64 key, .int .i64 val] 79)
   have hbb := hb.alloc hb.size (.cells #[.bool wr', .int .i64 key, .int .i64 val] 79)
   have hszb := hb.size
   clear hox hM hb
   cases wr' with
   | false =>
    simp only [Bool.false_eq_true, if_false] at HS
    go_wp2_with fail
    go_roundw
    case rel => exact ⟨k + 1, _, by omega, by go_num, by rw [HS.out]; exact hM1.mono (by omega), hbb⟩
    case measure => simp [intOf]; omega
   | true =>
    simp only [if_true] at HS
    go_wp2_with (first | (at_mapUpdate; refine wpList_putI _ rfl _ _ _ 218 rfl 3 79 keyI mapIO _ _ _ _ rfl hM1 (by unfold maxLen; omega) _ rfl hkey ⟨true, key, val⟩ rfl ?_; intro w1 hM3 hg; go_frame) | go_in)
    have hb3 := hbb.grown hg hbb.size (fun j hj => by cases hj; omega)
    go_wp2_with fail
    go_roundw
    case rel => exact ⟨k + 1, _, by omega, by go_num, by rw [HS.out]; exact hM3, hb3⟩
    case measure => simp [intOf]; omega
  ·have hkl : k = l.length := by omega
   subst hkl
   rw [List.take_length] at hM
   have HR := hid (rising_any (w.heap.size + 1) l.length cnt (lastW l) true wr hM (fun x o h => ⟨(lastW_key h).1, inI_of (by rw [← (lastW_key h).1]; exact (HOK.out o (lastW_key h).2.2).1)⟩) (Nat.le_trans hM.le hlen))
   have hcl := hM.le
   clear hM
   go_wp2_with fail
   refine (HR.out).mono ?_
   rintro e w1 ⟨v, out, rfl, hO, hR, hl, hb1⟩
   have hb2 := below_then hb hb1
   have hO2 := hid (hO.base hb.size)
   have HRise := hid hR
   clear hO hb1 hb HR hR
   go_wp2_with fail
   go_ret
   exact ⟨_, _, rfl, hO2.out, HRise.out, by omega, hb2⟩
end

section
open Go.RowKit
theorem step_app {P : Program} (w : World) {ops : Array Oper} {o : Oper} {a : Act} {K : Act → World → Prop} {Q : Exit → Act → World → Prop} {E : Prop} (hgd : o.guard = none) (s x : Operand) (t : TypeId)
  (ho : o.op = .call { callee := .builtin .append, args := #[s, x], argTypes := #[t, t] })
  (base : Nat) (e : TypeId) (i : TypeInfo) (z : Value) (size bytes : Nat) (ht : P.underlying t = some (.slice e)) (hi : P.info? e = some i) (hz : i.zero = some z)
  (hsize : i.size = size) (hby : i.bytes = bytes) (hzs : z.cells.size = size) (hsz : 0 < size)
  (v : Value) (n : Nat) (xs : List Value) (hs : a.eval s = v) (hown : w.ownsRow base e size v n xs)
  (ad : Addr) (m c : Nat) (news : List Value) (hx : a.eval x = .slice (some ad) m c) (hl : news.length = m * size) (hnews : ∀ j u, news[j]? = some u → w.cell? (ad.add j) = some u) (h1 : ∀ u ∈ news, u.oneCell' = true)
  (h63 : n + m ≤ maxLen) (hbytes : (n + m) * bytes ≤ 140737488355328) (hbase : base ≤ w.heap.size)
  (h : ∀ v' w', w'.ownsRow base e size v' (n + m) (xs ++ news) → w.grownBy w' v.ownBlock → K (a.put o.dst v') w') :
  if Region.wanted o (yielded ops a.tmps) = true then Oper.wp P o a w K Q else E := by
 have hw : Region.wanted o (yielded ops a.tmps) = true := by simp [Region.wanted, hgd]
 rw [if_pos hw]
 obtain ⟨v', w', hr, h2, h3, _⟩ := run_append_own (P := P) w base t o.type e i z size bytes ht hi hz hsize hby hzs hsz v n xs hown ad m c news hl hnews h1 h63 hbytes hbase
 unfold Oper.wp execOp
 simp only [ho, resolve, invoke, builtin, Sem.run_bind, Sem.run_pure, Result.andThen_ok, List.map_toArray, List.map_cons, List.map_nil, hs, hx, hr]
 exact h v' w' h2 h3
theorem lit_of {w : World} {B : Nat} {x y z : Value} (c0 : w.cell? ⟨B, 0, none⟩ = some x) (c1 : w.cell? ⟨B, 1, none⟩ = some y) (c2 : w.cell? ⟨B, 2, none⟩ = some z) : ∀ j u, [x, y, z][j]? = some u → w.cell? ((⟨B, 0, none⟩ : Addr).add j) = some u := fun j u hu => by
 match j, hu with
 | 0, hu => simp at hu; subst hu; exact c0
 | 1, hu => simp at hu; subst hu; exact c1
 | 2, hu => simp at hu; subst hu; exact c2
 | j + 3, hu => simp at hu
theorem lit_new (w : World) (x y z : Value) (t : TypeId) : ∀ j u, [x, y, z][j]? = some u → (w.alloc (.cells #[x, y, z] t)).cell? ((⟨w.heap.size, 0, none⟩ : Addr).add j) = some u := by
 obtain ⟨c0, c1, c2⟩ := opBlock w x y z t
 exact lit_of c0 c1 c2
theorem drew_own {w : World} {base : Nat} {e : TypeId} {size : Nat} {v : Value} {n : Nat} {cs : List Value} (h : w.ownsRow base e size v n cs) : w.drew.ownsRow base e size v n cs := owns_below h (Below.refl _ _).drew
end

section
open Go.RowKit
def keyV (l : List OpV) : List Value := l.map fun o => .int .i64 o.key
theorem keyV_take (l : List OpV) (k : Nat) (hk : k < l.length) : keyV (l.take (k + 1)) = keyV (l.take k) ++ [.int .i64 l[k].key] := by
 unfold keyV; rw [List.take_succ_eq_append_getElem hk, List.map_append]; rfl
theorem okeys_own {w : World} {base base' : Nat} {v : Value} {e : TypeId} {l : List OpV} (h : w.ownsRow base e 1 v (keyV l).length (keyV l)) (hb : base' ≤ base) : w.ownsRow base' e 1 v l.length (keyV l) := by
 have hkk : (keyV l).length = l.length := by simp [keyV]
 rw [hkk] at h
 obtain ⟨h1, h2⟩ := h
 refine ⟨h1, ?_⟩
 rcases h2 with h2 | ⟨g, cap, cur, e1, e2, r⟩
 ·exact .inl h2
 ·exact .inr ⟨g, cap, cur, e1, Nat.le_trans hb e2, r⟩
theorem okeys_any (s b c : Int) (va : Value) (l : List OpV) (w : World) (ha : Ops w va l) (hok : ∀ o ∈ l, o.ok) (hlen : l.length ≤ 100000) :
  Calls Tryz.prog 53 #[.agg #[.int .i64 s, .int .i64 b, .int .i64 c, va]] w fun e w' => ∃ v out, e = .returned v ∧ w'.ownsRow w.heap.size 3 1 v out.length (keyV out) ∧ Rise (lastW l) true out ∧ out.length ≤ l.length ∧ Below w.heap.size w w' := by
 obtain ⟨i0, hi, hz0, hz1, hz2⟩ := info_parts infoInt
 obtain ⟨ao, cap, rfl, hal⟩ := ha.form
 have hb0 := box_below w (.cells #[.int .i64 s, .int .i64 b, .int .i64 c, .slice ao l.length cap] 83)
 have CW := hid (writes_any s b c _ l _ (ha.below hb0) hok hlen)
 clear ha hok
 go_enter Tryz.func53, Tryz.ntmps53
 go_wp2_with fail
 refine (CW.out).mono ?_
 rintro e w1 ⟨v1, out, rfl, hO, hR, hol, hb1⟩
 have hb2 := below_then hb0 hb1
 have HR := hid (And.intro hR hol)
 have hlim : out.length ≤ 100000 := by omega
 clear CW hb0 hb1 hR hol
 obtain ⟨B, hB⟩ : ∃ B, B = w1.heap.size := ⟨_, rfl⟩
 have hBw : w.heap.size ≤ B := by have := hb2.size; omega
 have hBl : B ≤ w1.heap.size := by omega
 have HB := hid hB
 clear hB
 have hT := hO.ops
 clear hO
 obtain ⟨a1, cap1, rfl, _⟩ := hT.form
 go_wp2_with fail
 go_loopw [3, 9] (fun v i wr => ∃ k : Nat, k ≤ out.length ∧ i = .int .i64 k ∧ wr.ownsRow B 3 1 v (keyV (out.take k)).length (keyV (out.take k)) ∧ Below B w1 wr)
  (fun _ i _ => out.length - (intOf i).toNat)
 case atStart => exact ⟨0, by omega, rfl, World.ownsRow_nil _ _ _ _, HB.out ▸ Below.refl _ _⟩
 case round =>
  obtain ⟨k, hk, rfl, hown, hb⟩ := hrel
  have hsz := hb.size
  by_cases hlt : k < out.length
  ·have hki : (k : Int) < (out.length : Int) := by omega
   obtain ⟨g, o, hao, c0, c1, c2⟩ := (hT.below (HB.out ▸ hb)).at hlt
   cases hao
   have HM := hid (keyV_take out k hlt)
   have hkl : (keyV (out.take k)).length ≤ 100000 := by simp [keyV]; omega
   generalize out[k].wr = x at *
   generalize out[k].key = y at *
   generalize out[k].val = z at *
   have hbx := hb.alloc (by omega) (.cells #[.bool x, .int .i64 y, .int .i64 z] 79)
   have hownx := hown.alloc (.cells #[.bool x, .int .i64 y, .int .i64 z] 79)
   go_wp2_with (at_builtin; refine wpList_append_own _ rfl _ _ 24 rfl B 3 i0 (.int .i64 0) 1 8 Tryz.underlying24 hi hz0 hz1 hz2 rfl (by decide) _ _ _ rfl (hownx.alloc _) ⟨_, 0, none⟩ 1 1 [.int .i64 y] rfl rfl ?c1 ?c2 ?c3 ?c4 ?c5 ?_)
   case c1 =>
    have e : wr.heap.size + 1 = (wr.alloc (.cells #[.bool x, .int .i64 y, .int .i64 z] 79)).heap.size := by simp
    rw [e]
    exact cell_one_new _ _ _
   case c2 => intro u hu; simp at hu; subst hu; rfl
   case c3 => unfold maxLen; omega
   case c4 => omega
   case c5 => simp; omega
   ·intro v' w2 hown' hgrow _
    have hb' := below_app hbx (by omega) hownx hgrow
    clear hown hownx hbx hb hgrow
    go_wp2_with fail
    go_roundw
    case rel =>
     refine ⟨k + 1, by omega, by go_num, ?_, hb'⟩
     rw [HM.out, List.length_append]
     exact hown'
    case measure => simp [intOf]; omega
  ·have hkl : k = out.length := by omega
   subst hkl
   rw [List.take_length] at hown
   go_wp2_with fail
   go_ret
   exact ⟨_, out, rfl, okeys_own hown hBw, HR.out.1, HR.out.2, hb2.trans (hb.mono hBw)⟩
end

section
open Go.RowKit
def mayT (s b c : Int) (l : List OpV) : Bool := decide (0 ≤ s ∧ s < 64 ∧ 0 ≤ b ∧ b < c ∧ c ≤ 2147483647 ∧ 1 ≤ l.length ∧ l.length ≤ 64) && allM l
theorem mayT_no {s b c : Int} {l : List OpV} (h : ¬ (0 ≤ s ∧ s < 64 ∧ 0 ≤ b ∧ b < c ∧ c ≤ 2147483647 ∧ 1 ≤ l.length ∧ l.length ≤ 64)) : mayT s b c l = false := by
 unfold mayT; simp only [h, decide_false, Bool.false_and]
theorem mayT_yes {s b c : Int} {l : List OpV} (h : 0 ≤ s ∧ s < 64 ∧ 0 ≤ b ∧ b < c ∧ c ≤ 2147483647 ∧ 1 ≤ l.length ∧ l.length ≤ 64) : mayT s b c l = allM l := by
 unfold mayT; simp only [h, and_self, decide_true, Bool.true_and]
theorem tright_any (s b c : Int) (va : Value) (l : List OpV) (w : World) (ha : Ops w va l) :
  Calls Tryz.prog 131 #[.agg #[.int .i64 s, .int .i64 b, .int .i64 c, va]] w fun e w' => e = .returned (.bool (mayT s b c l)) ∧ Below w.heap.size w w' := by
 obtain ⟨ao, cap, rfl, hal⟩ := ha.form
 have hb0 := (Below.refl w.heap.size w).alloc (Nat.le_refl _) (.cells #[.int .i64 s, .int .i64 b, .int .i64 c, .slice ao l.length cap] 83)
 have NO : Hid (¬ (0 ≤ s ∧ s < 64 ∧ 0 ≤ b ∧ b < c ∧ c ≤ 2147483647 ∧ 1 ≤ l.length ∧ l.length ≤ 64) → false = mayT s b c l) := hid (fun h => (mayT_no h).symm)
 by_cases d1 : s < 0
 ·have H := hid (NO.out (by omega))
  go_enter Tryz.func131, Tryz.ntmps131
  go_wp2_with fail
  go_ret
  exact ⟨ret_b H.out, hb0⟩
 by_cases d2 : (64 : Int) ≤ s
 ·have H := hid (NO.out (by omega))
  go_enter Tryz.func131, Tryz.ntmps131
  go_wp2_with fail
  go_ret
  exact ⟨ret_b H.out, hb0⟩
 by_cases d3 : b < 0
 ·have H := hid (NO.out (by omega))
  go_enter Tryz.func131, Tryz.ntmps131
  go_wp2_with fail
  go_ret
  exact ⟨ret_b H.out, hb0⟩
 by_cases d4 : c ≤ b
 ·have H := hid (NO.out (by omega))
  go_enter Tryz.func131, Tryz.ntmps131
  go_wp2_with fail
  go_ret
  exact ⟨ret_b H.out, hb0⟩
 by_cases d5 : (2147483647 : Int) < c
 ·have H := hid (NO.out (by omega))
  go_enter Tryz.func131, Tryz.ntmps131
  go_wp2_with fail
  go_ret
  exact ⟨ret_b H.out, hb0⟩
 by_cases d6 : l.length = 0
 ·have H := hid (NO.out (by omega))
  rw [d6]
  rw [d6] at hb0
  go_enter Tryz.func131, Tryz.ntmps131
  go_wp2_with fail
  go_ret
  exact ⟨ret_b H.out, hb0⟩
 have d6' : ((l.length : Int) == 0) = false := by simp; exact fun h => d6 (by rw [h]; rfl)
 by_cases d7 : 64 < l.length
 ·have H := hid (NO.out (by omega))
  have d7' : (64 : Int) < (l.length : Int) := by omega
  go_enter Tryz.func131, Tryz.ntmps131
  go_wp2_with fail
  go_ret
  exact ⟨ret_b H.out, hb0⟩
 have d7' : ¬ (64 : Int) < (l.length : Int) := by omega
 have YES : Hid (mayT s b c l = allM l) := hid (mayT_yes (by omega))
 clear NO d6
 go_enter Tryz.func131, Tryz.ntmps131
 go_wp2_with fail
 clear d1 d2 d3 d4 d5
 go_loopw [41] (fun i wr => ∃ k : Nat, k ≤ l.length ∧ i = .int .i64 k ∧ allM (l.take k) = true ∧ Below w.heap.size w wr) (fun i _ => l.length - (intOf i).toNat)
 case atStart => exact ⟨0, by omega, rfl, rfl, hb0⟩
 case round =>
  obtain ⟨k, hk, rfl, hal2, hb⟩ := hrel
  have HA := hid hal2
  clear hal2 hb0
  by_cases hlt : k < l.length
  ·have hki : (k : Int) < (l.length : Int) := by omega
   obtain ⟨g, o, hao, c0, c1, c2⟩ := (ha.below hb).at hlt
   cases hao
   have HS := hid (allM_succ l k hlt)
   have HNO := hid (allM_no l k hlt)
   generalize l[k] = x at *
   obtain ⟨xw, xk, xv⟩ := x
   try simp only at c0 c1 c2
   have hbb := hb.alloc hb.size (.cells #[.bool xw, .int .i64 xk, .int .i64 xv] 79)
   have CR := hid (right_any xw xk xv (wr.alloc (.cells #[.bool xw, .int .i64 xk, .int .i64 xv] 79)))
   generalize mayO ⟨xw, xk, xv⟩ = q at *
   go_wp2_with fail
   refine (CR.out).mono ?_
   rintro e w1 ⟨rfl, hb1⟩
   have hb2 := below_then hbb hb1
   clear CR
   cases q
   ·have H : Hid (false = mayT s b c l) := hid (by rw [YES.out, HNO.out rfl])
    go_wp2_with fail
    go_ret
    exact ⟨ret_b H.out, hb2⟩
   ·have H : Hid (allM (l.take (k + 1)) = true) := hid (by rw [HS.out, HA.out]; rfl)
    go_wp2_with fail
    go_roundw
    case rel => exact ⟨k + 1, by omega, by go_num, H.out, hb2⟩
    case measure => simp [intOf]; omega
  ·have hkl : k = l.length := by omega
   have H : Hid (true = mayT s b c l) := hid (by have := HA.out; rw [hkl, List.take_length] at this; rw [YES.out, this])
   go_wp2_with fail
   go_ret
   exact ⟨ret_b H.out, hb⟩
end

section
open Go.RowKit
theorem wrap64_small {a : Int} (h1 : -9223372036854775808 ≤ a) (h2 : a ≤ 9223372036854775807) : wrap64 a = a := by unfold wrap64; omega
def opsN (h : List TxnV) : Nat := (h.map fun t => t.l.length).sum
theorem opsN_snoc (h : List TxnV) (t : TxnV) : opsN (h ++ [t]) = opsN h + t.l.length := by unfold opsN; simp
theorem opsN_take (h : List TxnV) (k : Nat) (hk : k < h.length) : opsN (h.take (k + 1)) = opsN (h.take k) + h[k].l.length := by
 rw [List.take_succ_eq_append_getElem hk, opsN_snoc]
theorem opsN_le (h : List TxnV) (k : Nat) : opsN (h.take k) ≤ opsN h := by
 have : opsN h = opsN (h.take k) + opsN (h.drop k) := by
  unfold opsN; rw [← List.sum_append, ← List.map_append, List.take_append_drop]
 omega
theorem opsN_at (h : List TxnV) (k : Nat) (hk : k < h.length) : h[k].l.length ≤ opsN h := by
 have h1 := opsN_take h k hk
 have h2 := opsN_le h (k + 1)
 omega
def Short (h : List TxnV) : Prop := ∀ t ∈ h, t.l.length ≤ 6000000000000
theorem ret_int {a b : Int} (h : a = b) : Ending.returned (.int .i64 a) = .returned (.int .i64 b) := by rw [h]
theorem hops_any (va : Value) (h : List TxnV) (w : World) (hT : Txns w va h) (hn : opsN h ≤ 4611686018427387904) :
  Calls Tryz.prog 83 #[va] w fun e w' => e = .returned (.int .i64 (opsN h)) ∧ Below w.heap.size w w' := by
 obtain ⟨ao, cap, rfl, hal⟩ := hT.form
 go_enter Tryz.func83, Tryz.ntmps83
 go_wp2_with fail
 go_loopw [3, 8] (fun n i wr => ∃ k : Nat, k ≤ h.length ∧ i = .int .i64 k ∧ n = .int .i64 (opsN (h.take k)) ∧ Below w.heap.size w wr) (fun _ i _ => h.length - (intOf i).toNat)
 case atStart => exact ⟨0, by omega, rfl, by simp [opsN], Below.refl _ _⟩
 case round =>
  obtain ⟨k, hk, rfl, rfl, hb⟩ := hrel
  by_cases hlt : k < h.length
  ·have hki : (k : Int) < (h.length : Int) := by omega
   obtain ⟨g, o, hao, c0, c1, c2, c3⟩ := (hT.below hb).at hlt
   cases hao
   have HS := hid (opsN_take h k hlt)
   have hle := opsN_le h (k + 1)
   rw [HS.out] at hle
   obtain ⟨ai, capi, hv, hli⟩ := (hT.ops hlt).form
   rw [hv] at c3
   have hbb := hb.alloc hb.size (.cells #[.int .i64 h[k].s, .int .i64 h[k].b, .int .i64 h[k].c, .slice ai h[k].l.length capi] 83)
   generalize h[k].l.length = m at *
   generalize h[k].s = s at *
   generalize h[k].b = b at *
   generalize h[k].c = c at *
   generalize opsN (h.take k) = n at *
   clear hv hT
   go_wp2_with fail
   go_roundw
   case rel => exact ⟨k + 1, by omega, by go_num, by rw [HS.out]; go_num, hbb⟩
   case measure => simp [intOf]; omega
  ·have hkl : k = h.length := by omega
   subst hkl
   have H : Hid ((opsN (h.take h.length) : Int) = opsN h) := hid (by rw [List.take_length])
   generalize opsN (h.take h.length) = n at *
   go_wp2_with fail
   go_ret
   exact ⟨ret_int H.out, hb⟩
theorem count_any (va : Value) (h : List TxnV) (w : World) (hT : Txns w va h) (hn : opsN h ≤ 4611686018427387904) :
  Calls Tryz.prog 24 #[va] w fun e w' => e = .returned (.int .i64 (opsN h)) ∧ Below w.heap.size w w' := by
 obtain ⟨ao, cap, rfl, hal⟩ := hT.form
 go_enter Tryz.func24, Tryz.ntmps24
 go_wp2_with fail
 go_loopw [3, 4] (fun n i wr => ∃ k : Nat, k ≤ h.length ∧ i = .int .i64 k ∧ n = .int .i64 (opsN (h.take k)) ∧ w = wr) (fun _ i _ => h.length - (intOf i).toNat)
 case atStart => exact ⟨0, by omega, rfl, by simp [opsN], rfl⟩
 case round =>
  obtain ⟨k, hk, rfl, rfl, rfl⟩ := hrel
  by_cases hlt : k < h.length
  ·have hki : (k : Int) < (h.length : Int) := by omega
   obtain ⟨g, o, hao, c0, c1, c2, c3⟩ := hT.at hlt
   cases hao
   have HS := hid (opsN_take h k hlt)
   have hle := opsN_le h (k + 1)
   rw [HS.out] at hle
   obtain ⟨ai, capi, hv, hli⟩ := (hT.ops hlt).form
   rw [hv] at c3
   generalize h[k].l.length = m at *
   generalize opsN (h.take k) = n at *
   clear hv c0 c1 c2
   go_wp2_with fail
   go_roundw
   case rel => exact ⟨k + 1, by omega, by go_num, by rw [HS.out]; go_num, by first | rfl | trivial⟩
   case measure => simp [intOf]; omega
  ·have hkl : k = h.length := by omega
   subst hkl
   have H : Hid ((opsN (h.take h.length) : Int) = opsN h) := hid (by rw [List.take_length])
   generalize opsN (h.take h.length) = n at *
   go_wp2_with fail
   go_ret
   exact ⟨ret_int H.out, Below.refl _ _⟩
end

section
open Go.RowKit
def partsB (h : List TxnV) : Bool := h.all fun t => mayT t.s t.b t.c t.l
theorem partsB_no {h : List TxnV} {k : Nat} (hk : k < h.length) (hn : mayT h[k].s h[k].b h[k].c h[k].l = false) : partsB h = false := by
 unfold partsB; exact List.all_eq_false.2 ⟨h[k], List.getElem_mem hk, by simp [hn]⟩
theorem partsB_succ (h : List TxnV) (k : Nat) (hk : k < h.length) : partsB (h.take (k + 1)) = (partsB (h.take k) && mayT h[k].s h[k].b h[k].c h[k].l) := by
 unfold partsB; rw [List.take_succ_eq_append_getElem hk, List.all_append]; simp
theorem parts_any (va : Value) (h : List TxnV) (w : World) (hT : Txns w va h) :
  Calls Tryz.prog 84 #[va] w fun e w' => e = .returned (.bool (partsB h)) ∧ Below w.heap.size w w' := by
 obtain ⟨ao, cap, rfl, hal⟩ := hT.form
 go_enter Tryz.func84, Tryz.ntmps84
 go_wp2_with fail
 go_loopw [7] (fun i wr => ∃ k : Nat, k ≤ h.length ∧ i = .int .i64 k ∧ partsB (h.take k) = true ∧ Below w.heap.size w wr) (fun i _ => h.length - (intOf i).toNat)
 case atStart => exact ⟨0, by omega, rfl, rfl, Below.refl _ _⟩
 case round =>
  obtain ⟨k, hk, rfl, hP, hb⟩ := hrel
  have HP := hid hP
  clear hP
  by_cases hlt : k < h.length
  ·have hki : (k : Int) < (h.length : Int) := by omega
   obtain ⟨g, o, hao, c0, c1, c2, c3⟩ := (hT.below hb).at hlt
   cases hao
   have HS := hid (partsB_succ h k hlt)
   have HN := hid (fun hh => partsB_no hlt hh)
   have hOps := fun wx (hx : Below w.heap.size w wx) => (hT.ops hlt).below hx
   generalize h[k] = t at *
   obtain ⟨s, b, c, v, l⟩ := t
   simp only at c0 c1 c2 c3 HS HN hOps
   obtain ⟨ai, capi, rfl, hli⟩ := (hOps w (Below.refl _ _)).form
   have hbb := hb.alloc hb.size (.cells #[.int .i64 s, .int .i64 b, .int .i64 c, .slice ai l.length capi] 83)
   have CR := hid (tright_any s b c _ l _ (hOps _ hbb))
   clear hOps
   generalize mayT s b c l = q at *
   go_wp2_with fail
   refine (CR.out).mono ?_
   rintro e w1 ⟨rfl, hb1⟩
   have hb2 := below_then hbb hb1
   clear CR
   cases q
   ·have H := hid (HN.out rfl)
    go_wp2_with fail
    go_ret
    exact ⟨ret_b H.out.symm, hb2⟩
   ·have H : Hid (partsB (h.take (k + 1)) = true) := hid (by rw [HS.out, HP.out]; rfl)
    go_wp2_with fail
    go_roundw
    case rel => exact ⟨k + 1, by omega, by go_num, H.out, hb2⟩
    case measure => simp [intOf]; omega
  ·have hkl : k = h.length := by omega
   have H : Hid (partsB h = true) := hid (by have := HP.out; rw [hkl, List.take_length] at this; exact this)
   go_wp2_with fail
   go_ret
   exact ⟨ret_b H.out.symm, hb⟩
def stL (h : List TxnV) : List Int := h.flatMap fun t => [t.b, t.c]
def stampsB (h : List TxnV) : Bool := decide (stL h).Nodup
theorem stL_succ (h : List TxnV) (k : Nat) (hk : k < h.length) : stL (h.take (k + 1)) = stL (h.take k) ++ [h[k].b, h[k].c] := by
 unfold stL; rw [List.take_succ_eq_append_getElem hk, List.flatMap_append]; simp
theorem stL_no {h : List TxnV} {k : Nat} (hn : ¬ (stL (h.take (k + 1))).Nodup) : stampsB h = false := by
 unfold stampsB
 rw [decide_eq_false_iff_not]
 intro hd
 apply hn
 have : stL h = stL (h.take (k + 1)) ++ stL (h.drop (k + 1)) := by unfold stL; rw [← List.flatMap_append, List.take_append_drop]
 rw [this] at hd
 exact (List.nodup_append.1 hd).1
def inF (L : List Int) : Int → Option Bool := fun x => if x ∈ L then some true else none
theorem inF_snoc (L : List Int) (x : Int) : putF (inF L) x true = inF (L ++ [x]) := by
 funext y
 unfold putF inF
 by_cases h : y = x <;> simp [h]
theorem nod_b {L : List Int} {b c : Int} (h : (L ++ [b, c].take 0).Nodup) (hn : ¬ b ∈ L ++ [b, c].take 0) : (L ++ [b, c].take 1).Nodup := by
 simp at h hn ⊢
 rw [List.nodup_append]
 exact ⟨h, by simp, by intro x hx y hy; simp at hy; subst hy; rintro rfl; exact hn hx⟩
theorem nod_c {L : List Int} {b c : Int} (h : (L ++ [b, c].take 1).Nodup) (hn : ¬ c ∈ L ++ [b, c].take 1) : (L ++ [b, c].take 2).Nodup := by
 simp at h hn ⊢
 rw [List.nodup_append] at h ⊢
 refine ⟨h.1, ?_, ?_⟩
 ·simp; exact fun e => hn.2 e.symm
 ·intro x hx y hy
  simp at hy
  rcases hy with rfl | rfl
  ·exact h.2.2 x hx y (by simp)
  ·rintro rfl; exact hn.1 hx
theorem dup_b {L : List Int} {b c : Int} (h : b ∈ L ++ [b, c].take 0) : ¬ (L ++ [b, c]).Nodup := by
 simp at h
 intro hd
 exact (List.nodup_append.1 hd).2.2 b h b (by simp) rfl
theorem dup_c {L : List Int} {b c : Int} (h : c ∈ L ++ [b, c].take 1) : ¬ (L ++ [b, c]).Nodup := by
 simp at h
 intro hd
 rcases h with h | rfl
 ·exact (List.nodup_append.1 hd).2.2 c h c (by simp) rfl
 ·have := (List.nodup_append.1 hd).2.1
  simp at this
theorem mapIB : Tryz.prog.underlying 192 = some (.map 3 4) := Tryz.underlying192
theorem zeroB (w : World) : (zeroValue 4).run Tryz.prog w = .ok (Value.bool false) w := by kernel_rfl
theorem pair_index (b c : Int) (w : World) : Sem.run Tryz.prog (Instr.index 193 (.agg #[.int .i64 b, .int .i64 c]) (.int .i64 0)) w = .ok (.int .i64 b) w ∧ Sem.run Tryz.prog (Instr.index 193 (.agg #[.int .i64 b, .int .i64 c]) (.int .i64 1)) w = .ok (.int .i64 c) w := by
 have u1 := Tryz.underlying193
 have u2 := Tryz.underlying3
 have u3 := Tryz.sizeOf3
 have u4 := Tryz.isAgg3
 constructor <;> (unfold Instr.index; go_simp)
theorem stamps_any (va : Value) (h : List TxnV) (w : World) (hT : Txns w va h) (hok : ∀ t ∈ h, t.ok) (hlen : h.length ≤ 100000) :
  Calls Tryz.prog 86 #[va] w fun e w' => e = .returned (.bool (stampsB h)) ∧ Below w.heap.size w w' := by
 obtain ⟨ao, cap, rfl, hal⟩ := hT.form
 have HOK := hid hok
 clear hok
 have hm0 := MapI.made Value.bool Tryz.prog 3 w
 have hb1 := (Below.refl w.heap.size w).alloc (Nat.le_refl _) (.map #[] 0)
 have hmm := @run_makeMap Tryz.prog
 go_enter Tryz.func86, Tryz.ntmps86
 go_wp2_with fail
 go_loopw [11] (fun i wr => ∃ k cnt : Nat, k ≤ h.length ∧ i = .int .i64 k ∧ (stL (h.take k)).Nodup ∧ MapI Value.bool Tryz.prog 3 wr w.heap.size (2 * k) (inF (stL (h.take k))) cnt ∧ Below w.heap.size w wr) (fun i _ => h.length - (intOf i).toNat)
 case atStart => exact ⟨0, 0, by omega, rfl, by simp [stL], by have e : inF (stL (h.take 0)) = fun _ => none := (by funext y; simp [stL, inF]); rw [e]; exact hm0, hb1⟩
 case round =>
  obtain ⟨k, cnt, hk, rfl, hN, hM, hb⟩ := hrel
  have HND := hid hN
  clear hN hm0 hb1
  by_cases hlt : k < h.length
  ·have hki : (k : Int) < (h.length : Int) := by omega
   obtain ⟨g, o, hao, c0, c1, c2, c3⟩ := (hT.below hb).at hlt
   cases hao
   have HS := hid (stL_succ h k hlt)
   have HNO := hid (fun hh => stL_no (h := h) (k := k) hh)
   have hOps := (hT.ops hlt)
   have htok := (HOK.out h[k] (List.getElem_mem hlt)).1
   generalize h[k] = t at *
   obtain ⟨s, b, c, v, l⟩ := t
   simp only at c0 c1 c2 c3 HS hOps htok
   have hkb := inI_of htok.2.1
   have hkc := inI_of htok.2.2
   obtain ⟨ai, capi, rfl, hli⟩ := hOps.form
   have hM1 := hM.alloc (.cells #[.int .i64 s, .int .i64 b, .int .i64 c, .slice ai l.length capi] 83)
   have hbb := hb.alloc hb.size (.cells #[.int .i64 s, .int .i64 b, .int .i64 c, .slice ai l.length capi] 83)
   have hsz := hb.size
   clear hOps htok hM hb
   have hix0 := fun w => (pair_index b c w).1
   have hix1 := fun w => (pair_index b c w).2
   generalize stL (h.take k) = L at *
   go_wp2_with fail
   go_loopw [20] (fun i wx => ∃ j cn : Nat, j ≤ 2 ∧ i = .int .i64 j ∧ (L ++ [b, c].take j).Nodup ∧ MapI Value.bool Tryz.prog 3 wx w.heap.size (2 * k + j) (inF (L ++ [b, c].take j)) cn ∧ Below w.heap.size w wx) (fun i _ => 2 - (intOf i).toNat)
   case atStart => exact ⟨0, _, by omega, rfl, by simpa using HND.out, by simpa using hM1, hbb⟩
   case round =>
    obtain ⟨j, cn, hj, hi, hD, hM2, hb2⟩ := hrel
    clear hM1 hbb
    rcases j with _ | _ | j
    ·obtain rfl : u20 = .int .i64 0 := hi
     have HD := hid hD
     clear hD
     by_cases hin : b ∈ L ++ [b, c].take 0
     ·have H : Hid (stampsB h = false) := hid (HNO.out (by rw [HS.out]; exact dup_b hin))
      have hf : (inF (L ++ [b, c].take 0) b).getD false = true := by unfold inF; rw [if_pos hin]; rfl
      clear HNO hin
      go_wp2_with (first | (at_lookup; refine wpList_lookI _ rfl _ _ 192 rfl 3 4 keyI mapIB false (zeroB _) _ _ _ _ rfl hM2 _ rfl hkb ?_; rw [hf]) | go_in)
      go_ret
      exact ⟨ret_b H.out.symm, hb2⟩
     ·have hf : (inF (L ++ [b, c].take 0) b).getD false = false := by unfold inF; rw [if_neg hin]; rfl
      have HN2 : Hid ((L ++ [b, c].take 1).Nodup) := hid (nod_b HD.out hin)
      have HF : Hid (putF (inF (L ++ [b, c].take 0)) b true = inF (L ++ [b, c].take 1)) := hid (by rw [inF_snoc]; simp)
      clear HNO hin
      go_wp2_with (first | (at_lookup; refine wpList_lookI _ rfl _ _ 192 rfl 3 4 keyI mapIB false (zeroB _) _ _ _ _ rfl hM2 _ rfl hkb ?_; rw [hf]) | (at_mapUpdate; refine wpList_putI _ rfl _ _ _ 192 rfl 3 4 keyI mapIB _ _ _ _ rfl hM2 (by unfold maxLen; omega) _ rfl hkb true rfl ?_; intro w1 hM3 hg; go_frame) | go_in)
      have hb3 := hb2.grown hg hb2.size (fun j hj => by cases hj; omega)
      go_wp2_with fail
      go_roundw
      case rel => exact ⟨1, _, by omega, by go_num, HN2.out, by rw [← HF.out]; exact hM3, hb3⟩
      case measure => simp [intOf]
    ·obtain rfl : u20 = .int .i64 1 := hi
     have HD := hid hD
     clear hD
     by_cases hin : c ∈ L ++ [b, c].take 1
     ·have H : Hid (stampsB h = false) := hid (HNO.out (by rw [HS.out]; exact dup_c hin))
      have hf : (inF (L ++ [b, c].take 1) c).getD false = true := by unfold inF; rw [if_pos hin]; rfl
      clear HNO hin
      go_wp2_with (first | (at_lookup; refine wpList_lookI _ rfl _ _ 192 rfl 3 4 keyI mapIB false (zeroB _) _ _ _ _ rfl hM2 _ rfl hkc ?_; rw [hf]) | go_in)
      go_ret
      exact ⟨ret_b H.out.symm, hb2⟩
     ·have hf : (inF (L ++ [b, c].take 1) c).getD false = false := by unfold inF; rw [if_neg hin]; rfl
      have HN2 : Hid ((L ++ [b, c].take 2).Nodup) := hid (nod_c HD.out hin)
      have HF : Hid (putF (inF (L ++ [b, c].take 1)) c true = inF (L ++ [b, c].take 2)) := hid (by rw [inF_snoc]; simp)
      clear HNO hin
      go_wp2_with (first | (at_lookup; refine wpList_lookI _ rfl _ _ 192 rfl 3 4 keyI mapIB false (zeroB _) _ _ _ _ rfl hM2 _ rfl hkc ?_; rw [hf]) | (at_mapUpdate; refine wpList_putI _ rfl _ _ _ 192 rfl 3 4 keyI mapIB _ _ _ _ rfl hM2 (by unfold maxLen; omega) _ rfl hkc true rfl ?_; intro w1 hM3 hg; go_frame) | go_in)
      have hb3 := hb2.grown hg hb2.size (fun j hj => by cases hj; omega)
      go_wp2_with fail
      go_roundw
      case rel => exact ⟨2, _, by omega, by go_num, HN2.out, by rw [← HF.out]; exact hM3, hb3⟩
      case measure => simp [intOf]
    ·obtain rfl : j = 0 := by omega
     obtain rfl : u20 = .int .i64 2 := hi
     have HR : Hid (stL (h.take (k + 1)) = L ++ [b, c].take 2) := hid (by rw [HS.out]; rfl)
     have HD := hid hD
     clear hD
     go_wp2_with fail
     go_roundw
     case rel => exact ⟨k + 1, _, by omega, by go_num, by rw [HR.out]; exact HD.out, by rw [HR.out]; exact hM2.mono (by omega), hb2⟩
     case measure => simp [intOf]; omega
  ·have hkl : k = h.length := by omega
   have H : Hid (stampsB h = true) := hid (by have := HND.out; rw [hkl, List.take_length] at this; unfold stampsB; simpa using this)
   go_wp2_with fail
   go_ret
   exact ⟨ret_b H.out.symm, hb⟩
end

section
open Go.RowKit
def endF (h : List TxnV) : Int → Option Int := fun x => ((h.filter fun t => t.s == x).getLast?).map (·.c)
theorem endF_succ (h : List TxnV) (k : Nat) (hk : k < h.length) : endF (h.take (k + 1)) = putF (endF (h.take k)) h[k].s h[k].c := by
 funext y
 unfold endF putF
 rw [List.take_succ_eq_append_getElem hk, List.filter_append]
 by_cases e : y = h[k].s
 ·subst e; simp
 ·have : (h[k].s == y) = false := by simp; exact fun e2 => e e2.symm
  simp [this, e]
def sesOk (h : List TxnV) (k : Nat) : Bool := match h[k]? with
 | none => true
 | some t => match endF (h.take k) t.s with
  | none => true
  | some e => decide (e < t.b)
def sesB (h : List TxnV) : Bool := (List.range h.length).all (sesOk h)
theorem sesB_all {h : List TxnV} (hh : ∀ j, j < h.length → sesOk h j = true) : sesB h = true := by
 unfold sesB; rw [List.all_eq_true]; intro j hj; exact hh j (List.mem_range.1 hj)
theorem sesB_no {h : List TxnV} {k : Nat} (hk : k < h.length) (hh : sesOk h k = false) : sesB h = false := by
 unfold sesB; rw [List.all_eq_false]; exact ⟨k, List.mem_range.2 hk, by simp [hh]⟩
theorem sesOk_at {h : List TxnV} {k : Nat} (hk : k < h.length) : sesOk h k = match endF (h.take k) h[k].s with
  | none => true
  | some e => decide (e < h[k].b) := by
 unfold sesOk; rw [List.getElem?_eq_getElem hk]
theorem sessions_any (va : Value) (h : List TxnV) (w : World) (hT : Txns w va h) (hok : ∀ t ∈ h, t.ok) (hlen : h.length ≤ 100000) :
  Calls Tryz.prog 87 #[va] w fun e w' => e = .returned (.bool (sesB h)) ∧ Below w.heap.size w w' := by
 obtain ⟨ao, cap, rfl, hal⟩ := hT.form
 have HOK := hid hok
 clear hok
 have hm0 := MapI.made eI Tryz.prog 3 w
 have hb1 := (Below.refl w.heap.size w).alloc (Nat.le_refl _) (.map #[] 0)
 have hmm := @run_makeMap Tryz.prog
 go_enter Tryz.func87, Tryz.ntmps87
 go_wp2_with fail
 go_loopw [11] (fun i wr => ∃ k cnt : Nat, k ≤ h.length ∧ i = .int .i64 k ∧ (∀ j, j < k → sesOk h j = true) ∧ MapI eI Tryz.prog 3 wr w.heap.size k (endF (h.take k)) cnt ∧ Below w.heap.size w wr) (fun i _ => h.length - (intOf i).toNat)
 case atStart => exact ⟨0, 0, by omega, rfl, by omega, hm0, hb1⟩
 case round =>
  obtain ⟨k, cnt, hk, rfl, hN, hM, hb⟩ := hrel
  have HST := hid hN
  clear hN hm0 hb1
  by_cases hlt : k < h.length
  ·have hki : (k : Int) < (h.length : Int) := by omega
   obtain ⟨g, o, hao, c0, c1, c2, c3⟩ := (hT.below hb).at hlt
   cases hao
   have HV := hid (endF_succ h k hlt)
   have HS := hid (sesOk_at hlt)
   have HNO := hid (fun hh => sesB_no hlt hh)
   have hOps := (hT.ops hlt)
   have htok := (HOK.out h[k] (List.getElem_mem hlt)).1
   generalize h[k] = t at *
   obtain ⟨s, b, c, v, l⟩ := t
   simp only at c0 c1 c2 c3 hOps htok
   have hkey := inI_of htok.1
   obtain ⟨ai, capi, rfl, hli⟩ := hOps.form
   have hM1 := hM.alloc (.cells #[.int .i64 s, .int .i64 b, .int .i64 c, .slice ai l.length capi] 83)
   have hbb := hb.alloc hb.size (.cells #[.int .i64 s, .int .i64 b, .int .i64 c, .slice ai l.length capi] 83)
   have hsz := hb.size
   clear hOps htok hM hb
   cases hv : endF (h.take k) s with
   | none =>
    have H : Hid (sesOk h k = true) := hid (by rw [HS.out]; simp only; rw [hv])
    clear HNO HS
    go_wp2_with (first | (at_lookup; refine wpList_lookI_ok _ rfl _ _ 32 rfl 3 3 keyI mapII 0 (zeroI _) _ _ _ _ rfl hM1 _ rfl hkey ?_; rw [hv]) | (at_mapUpdate; refine wpList_putI _ rfl _ _ _ 32 rfl 3 3 keyI mapII _ _ _ _ rfl hM1 (by unfold maxLen; omega) _ rfl hkey c rfl ?_; intro w1 hM2 hg; go_frame) | go_in)
    have hb2 := hbb.grown hg hbb.size (fun j hj => by cases hj; omega)
    go_wp2_with fail
    go_roundw
    case rel => exact ⟨k + 1, _, by omega, by go_num, all_snoc HST.out H.out, by rw [HV.out]; exact hM2, hb2⟩
    case measure => simp [intOf]; omega
   | some e =>
    have HSP : Hid (sesOk h k = decide (e < b)) := hid (by rw [HS.out]; simp only; rw [hv])
    clear HS
    by_cases hvv : e < b
    ·have H : Hid (sesOk h k = true) := hid (by rw [HSP.out]; simp [hvv])
     have hne : ¬ b ≤ e := by omega
     clear HNO HSP hvv
     go_wp2_with (first | (at_lookup; refine wpList_lookI_ok _ rfl _ _ 32 rfl 3 3 keyI mapII 0 (zeroI _) _ _ _ _ rfl hM1 _ rfl hkey ?_; rw [hv]; simp only [Option.getD_some, Option.isSome_some, eI]) | (at_mapUpdate; refine wpList_putI _ rfl _ _ _ 32 rfl 3 3 keyI mapII _ _ _ _ rfl hM1 (by unfold maxLen; omega) _ rfl hkey c rfl ?_; intro w1 hM2 hg; go_frame) | go_in)
     have hb2 := hbb.grown hg hbb.size (fun j hj => by cases hj; omega)
     go_wp2_with fail
     go_roundw
     case rel => exact ⟨k + 1, _, by omega, by go_num, all_snoc HST.out H.out, by rw [HV.out]; exact hM2, hb2⟩
     case measure => simp [intOf]; omega
    ·have H : Hid (sesB h = false) := hid (HNO.out (by rw [HSP.out]; simpa using hvv))
     have hne : b ≤ e := by omega
     clear HNO HSP hvv
     go_wp2_with (first | (at_lookup; refine wpList_lookI_ok _ rfl _ _ 32 rfl 3 3 keyI mapII 0 (zeroI _) _ _ _ _ rfl hM1 _ rfl hkey ?_; rw [hv]; simp only [Option.getD_some, Option.isSome_some, eI]) | go_in)
     go_ret
     exact ⟨ret_b H.out.symm, hbb⟩
  ·have hkl : k = h.length := by omega
   have H : Hid (sesB h = true) := hid (sesB_all (by rw [← hkl]; exact HST.out))
   go_wp2_with fail
   go_ret
   exact ⟨ret_b H.out.symm, hb⟩
end

section
open Go.RowKit
structure WV where
 i : Int
 key : Int
 last : Bool
def eW (x : WV) : Value := .agg #[.int .i64 x.i, .int .i64 x.key, .bool x.last]
def wZ : WV := ⟨0, 0, false⟩
def addOne (i : Int) (F : Int → Option WV) (o : OpV) : Int → Option WV := if o.wr then putF F o.val ⟨i, o.key, false⟩ else F
def addF (i : Int) (F : Int → Option WV) (l : List OpV) : Int → Option WV := l.foldl (addOne i) F
def finF (i : Int) (F : Int → Option WV) (l : List OpV) : Int → Option WV := l.foldl (fun F o => putF F o.val ⟨i, o.key, true⟩) F
theorem addF_snoc (i : Int) (F : Int → Option WV) (l : List OpV) (o : OpV) : addF i F (l ++ [o]) = addOne i (addF i F l) o := by unfold addF; rw [List.foldl_append]; rfl
theorem finF_snoc (i : Int) (F : Int → Option WV) (l : List OpV) (o : OpV) : finF i F (l ++ [o]) = putF (finF i F l) o.val ⟨i, o.key, true⟩ := by unfold finF; rw [List.foldl_append]; rfl
def opsAt (h : List TxnV) (k : Nat) : List OpV := ((h[k]?).map (·.l)).getD []
theorem opsAt_eq {h : List TxnV} {k : Nat} (hk : k < h.length) : opsAt h k = h[k].l := by unfold opsAt; rw [List.getElem?_eq_getElem hk]; rfl
def wrTo (h : List TxnV) (k : Nat) : Int → Option WV := (List.range k).foldl (fun F (j : Nat) => finF (j : Int) (addF (j : Int) F (opsAt h j)) (refWrites (opsAt h j))) fun _ => none
theorem wrTo_succ (h : List TxnV) (k : Nat) : wrTo h (k + 1) = finF k (addF k (wrTo h k) (opsAt h k)) (refWrites (opsAt h k)) := by
 unfold wrTo; rw [List.range_succ, List.foldl_append]; rfl
def wv (l : List OpV) : List Int := (l.filter (·.wr)).map (·.val)
def wvH (h : List TxnV) : List Int := h.flatMap fun t => wv t.l
theorem wv_snoc (l : List OpV) (o : OpV) : wv (l ++ [o]) = wv l ++ (if o.wr then [o.val] else []) := by
 unfold wv; rw [List.filter_append, List.map_append]
 cases h : o.wr <;> simp [h]
theorem wvH_succ (h : List TxnV) (k : Nat) (hk : k < h.length) : wvH (h.take (k + 1)) = wvH (h.take k) ++ wv h[k].l := by
 unfold wvH; rw [List.take_succ_eq_append_getElem hk, List.flatMap_append]; simp
def okW (h : List TxnV) : Bool := decide (wvH h).Nodup
theorem okW_no {h : List TxnV} {k j : Nat} (hk : k < h.length) (hn : ¬ (wvH (h.take k) ++ wv (h[k].l.take j)).Nodup) : okW h = false := by
 unfold okW
 rw [decide_eq_false_iff_not]
 intro hd
 apply hn
 have e1 : wvH h = wvH (h.take (k + 1)) ++ wvH (h.drop (k + 1)) := by unfold wvH; rw [← List.flatMap_append, List.take_append_drop]
 have e2 : wv h[k].l = wv (h[k].l.take j) ++ wv (h[k].l.drop j) := by unfold wv; rw [← List.map_append, ← List.filter_append, List.take_append_drop]
 rw [e1, wvH_succ h k hk, e2, ← List.append_assoc] at hd
 exact (List.nodup_append.1 (List.nodup_append.1 hd).1).1
def Dom (F : Int → Option WV) (W : List Int) : Prop := ∀ x, (F x).isSome = decide (x ∈ W)
theorem Dom.put {F : Int → Option WV} {W : List Int} (h : Dom F W) (x : Int) (u : WV) : Dom (putF F x u) (W ++ [x]) := by
 intro y
 unfold putF
 by_cases e : y = x
 ·simp [e]
 ·rw [if_neg e, h y]; simp [e]
theorem Dom.again {F : Int → Option WV} {W : List Int} (h : Dom F W) {x : Int} (hx : x ∈ W) (u : WV) : Dom (putF F x u) W := by
 intro y
 unfold putF
 by_cases e : y = x
 ·simp [e, hx]
 ·rw [if_neg e, h y]
theorem Dom.not {F : Int → Option WV} {W : List Int} (h : Dom F W) {x : Int} (hx : F x = none) : ¬ x ∈ W := by
 have := h x; rw [hx] at this; simpa using this.symm
theorem Dom.yes {F : Int → Option WV} {W : List Int} (h : Dom F W) {x : Int} {u : WV} (hx : F x = some u) : x ∈ W := by
 have := h x; rw [hx] at this; simpa using this.symm
theorem nodup_snoc {L : List Int} {x : Int} (h : L.Nodup) (hx : ¬ x ∈ L) : (L ++ [x]).Nodup := by
 rw [List.nodup_append]
 exact ⟨h, by simp, by intro a ha b hb; simp at hb; subst hb; rintro rfl; exact hx ha⟩
theorem not_nodup_snoc {L : List Int} {x : Int} (hx : x ∈ L) : ¬ (L ++ [x]).Nodup := fun hd => (List.nodup_append.1 hd).2.2 x hx x (by simp) rfl
theorem wv_mem {l : List OpV} {x : Int} : x ∈ wv l ↔ ∃ o ∈ l, o.wr = true ∧ o.val = x := by
 unfold wv; simp [and_assoc]
theorem rise_wv {l out : List OpV} (h : Rise (lastW l) true out) : ∀ o ∈ out, o.val ∈ wv l := by
 intro o ho
 obtain ⟨h1, h2⟩ := (h.2 o).1 ho
 exact wv_mem.2 ⟨o, (lastW_key h1).2.2, h2, rfl⟩
theorem wv_len (l : List OpV) : (wv l).length ≤ l.length := by unfold wv; rw [List.length_map]; exact List.length_filter_le _ _
end

section
open Go.RowKit
theorem mapIW : Tryz.prog.underlying 102 = some (.map 3 165) := Tryz.underlying102
theorem zeroW (w : World) : (zeroValue 165).run Tryz.prog w = .ok (eW wZ) w := by kernel_rfl
def At (w : World) (p : Nat) (o : Obj) : Prop := w.heap[p]? = some o
theorem At.lt {w : World} {p : Nat} {o : Obj} (h : At w p o) : p < w.heap.size := (Array.getElem?_eq_some_iff.1 h).1
theorem At.new (w : World) (o : Obj) : At (w.alloc o) w.heap.size o := heap_alloc_new w o
theorem At.grown {w w' : World} {p : Nat} {o : Obj} {row : Option Nat} (h : At w p o) (hg : w.grownBy w' row) (hne : some p ≠ row) : At w' p o := (hg.block p h.lt hne).trans h
theorem At.alloc {w : World} {p : Nat} {o : Obj} (h : At w p o) (o' : Obj) : At (w.alloc o') p o := h.grown (World.grownBy_alloc w o' none) (by simp)
theorem At.below {w w' : World} {p : Nat} {o : Obj} (h : At w p o) (hb : Below w.heap.size w w') : At w' p o := (hb.block p h.lt).trans h
theorem At.cells4 {w : World} {p : Nat} {x y z u : Value} {t : TypeId} (h : At w p (.cells #[x, y, z, u] t)) : w.cell? ⟨p, 0, none⟩ = some x ∧ w.cell? ⟨p, 1, none⟩ = some y ∧ w.cell? ⟨p, 2, none⟩ = some z ∧ w.cell? ⟨p, 3, none⟩ = some u := by
 refine ⟨?_, ?_, ?_, ?_⟩ <;> (unfold At at h; simp [World.cell?, h])
def WrPost (w : World) (h : List TxnV) (e : Ending) (w' : World) : Prop :=
 Below w.heap.size w w' ∧ ((okW h = false ∧ e = .returned (.tuple #[.map none, .bool false])) ∨
  (okW h = true ∧ ∃ b n, e = .returned (.tuple #[.map (some b), .bool true]) ∧ w.heap.size ≤ b ∧ MapI eW Tryz.prog 3 w' b n (wrTo h h.length) (wvH h).length))
theorem hwrites_any (va : Value) (h : List TxnV) (w : World) (hT : Txns w va h) (hok : ∀ t ∈ h, t.ok) (hks : ∀ t ∈ h, keysIn t.l) (hn : opsN h ≤ 100000) (hlen : h.length ≤ 100000) :
  Calls Tryz.prog 52 #[va] w (WrPost w h) := by
 obtain ⟨ao, cap, rfl, hal⟩ := hT.form
 have HOK := hid hok
 have HKS := hid hks
 clear hok hks
 have hm0 := MapI.made eW Tryz.prog 3 w
 have hb1 := (Below.refl w.heap.size w).alloc (Nat.le_refl _) (.map #[] 0)
 have hmm := @run_makeMap Tryz.prog
 go_enter Tryz.func52, Tryz.ntmps52
 go_wp2_with fail
 go_loopw [16] (fun i wr => ∃ k n : Nat, k ≤ h.length ∧ i = .int .i64 k ∧ n ≤ 2 * opsN (h.take k) ∧ (wvH (h.take k)).Nodup ∧ Dom (wrTo h k) (wvH (h.take k)) ∧ MapI eW Tryz.prog 3 wr w.heap.size n (wrTo h k) (wvH (h.take k)).length ∧ Below w.heap.size w wr) (fun i _ => h.length - (intOf i).toNat)
 case atStart => exact ⟨0, 0, by omega, rfl, by omega, by simp [wvH], fun x => by simp [wrTo, wvH], hm0, hb1⟩
 case round =>
  obtain ⟨k, n, hk, rfl, hnn, hN, hD, hM, hb⟩ := hrel
  have HND := hid hN
  have HD := hid hD
  clear hN hD hm0 hb1
  by_cases hlt : k < h.length
  ·have hki : (k : Int) < (h.length : Int) := by omega
   obtain ⟨g, o, hao, c0, c1, c2, c3⟩ := (hT.below hb).at hlt
   cases hao
   have HW := hid (wvH_succ h k hlt)
   have HR : Hid (wrTo h (k + 1) = finF (k : Int) (addF (k : Int) (wrTo h k) h[k].l) (refWrites h[k].l)) := hid (by rw [wrTo_succ, opsAt_eq hlt])
   have HNO := hid (fun j hh => okW_no (j := j) hlt hh)
   have hOps := fun wx (hx : Below w.heap.size w wx) => (hT.ops hlt).below hx
   have HTK := hid (HOK.out h[k] (List.getElem_mem hlt))
   have HKK := hid (HKS.out h[k] (List.getElem_mem hlt))
   have hon := opsN_take h k hlt
   have hol := opsN_le h (k + 1)
   generalize h[k] = t at *
   obtain ⟨s, b, c, v, l⟩ := t
   simp only at c0 c1 c2 c3 HW HR HNO hOps HTK HKK hon
   obtain ⟨ai, capi, rfl, hli⟩ := (hOps w (Below.refl _ _)).form
   have HOP := hid hOps
   have hpl := hM.lt
   have hM1 := hM.alloc (.cells #[.int .i64 s, .int .i64 b, .int .i64 c, .slice ai l.length capi] 83)
   have hbb := hb.alloc hb.size (.cells #[.int .i64 s, .int .i64 b, .int .i64 c, .slice ai l.length capi] 83)
   have hsz := hb.size
   have hx := txnBlock wr (.int .i64 s) (.int .i64 b) (.int .i64 c) (.slice ai l.length capi) 83
   have hltx : wr.heap.size < (wr.alloc (.cells #[.int .i64 s, .int .i64 b, .int .i64 c, .slice ai l.length capi] 83)).heap.size := by simp
   clear hOps hM hb
   generalize wvH (h.take k) = W at *
   generalize wrTo h k = F at *
   go_wp2_with fail
   have hA0 := At.new wr (.cells #[.int .i64 s, .int .i64 b, .int .i64 c, .slice ai l.length capi] 83)
   generalize wr.alloc (.cells #[.int .i64 s, .int .i64 b, .int .i64 c, .slice ai l.length capi] 83) = w1 at *
   generalize hpp : wr.heap.size = p at *
   have hA1 : At w1 p (.cells #[.int .i64 s, .int .i64 b, .int .i64 c, .slice ai l.length capi] 83) := hA0
   clear hA0 c0 c1 c2 c3 hx hsz
   go_loopw [24] (fun i wx => ∃ j m : Nat, j ≤ l.length ∧ i = .int .i64 j ∧ m ≤ 2 * opsN (h.take k) + j ∧ (W ++ wv (l.take j)).Nodup ∧ Dom (addF (k : Int) F (l.take j)) (W ++ wv (l.take j)) ∧ MapI eW Tryz.prog 3 wx w.heap.size m (addF (k : Int) F (l.take j)) (W ++ wv (l.take j)).length ∧ At wx p (.cells #[.int .i64 s, .int .i64 b, .int .i64 c, .slice ai l.length capi] 83) ∧ Below w.heap.size w wx) (fun i _ => l.length - (intOf i).toNat)
   case atStart => exact ⟨0, n, by omega, rfl, by omega, by simpa [wv] using HND.out, by simpa [wv, addF] using HD.out, by simpa [wv, addF] using hM1, hA1, hbb⟩
   case round =>
    obtain ⟨j, m, hj, rfl, hmm2, hN2, hD2, hM2, hA2, hb2⟩ := hrel
    have HN2 := hid hN2
    have HD2 := hid hD2
    clear hN2 hD2 hM1 hA1 hbb
    by_cases hltj : j < l.length
    ·have hkj : (j : Int) < (l.length : Int) := by omega
     obtain ⟨g2, o2, hao2, e0, e1, e2⟩ := (HOP.out _ hb2).at hltj
     cases hao2
     have HWJ : Hid (wv (l.take (j + 1)) = wv (l.take j) ++ (if l[j].wr then [l[j].val] else [])) := hid (by rw [take_snoc l j hltj, wv_snoc])
     have HFJ : Hid (addF (k : Int) F (l.take (j + 1)) = addOne (k : Int) (addF (k : Int) F (l.take j)) l[j]) := hid (by rw [take_snoc l j hltj, addF_snoc])
     have hox := HTK.out.2 l[j] (List.getElem_mem hltj)
     generalize l[j] = x at *
     obtain ⟨xw, xk, xv⟩ := x
     simp only at e0 e1 e2 HWJ HFJ
     have hkv := inI_of hox.2
     have hM3 := hM2.alloc (.cells #[.bool xw, .int .i64 xk, .int .i64 xv] 79)
     have hA3 := hA2.alloc (.cells #[.bool xw, .int .i64 xk, .int .i64 xv] 79)
     have hb3 := hb2.alloc hb2.size (.cells #[.bool xw, .int .i64 xk, .int .i64 xv] 79)
     have hszj := hb2.size
     clear hox hM2 hA2 hb2
     cases xw with
     | false =>
      simp only [Bool.false_eq_true, if_false, List.append_nil] at HWJ
      have HFJ2 : Hid (addF (k : Int) F (l.take (j + 1)) = addF (k : Int) F (l.take j)) := hid (by rw [HFJ.out]; rfl)
      clear HFJ
      go_wp2_with fail
      go_roundw
      case rel => exact ⟨j + 1, m, by omega, by go_num, by omega, by rw [HWJ.out]; exact HN2.out, by rw [HWJ.out, HFJ2.out]; exact HD2.out, by rw [HWJ.out, HFJ2.out]; exact hM3, hA3, hb3⟩
      case measure => simp [intOf]; omega
     | true =>
      simp only [if_true] at HWJ
      have HFJ2 : Hid (addF (k : Int) F (l.take (j + 1)) = putF (addF (k : Int) F (l.take j)) xv ⟨k, xk, false⟩) := hid (by rw [HFJ.out]; rfl)
      have HNJ : Hid (xv ∈ W ++ wv (l.take j) → okW h = false) := hid (fun hin => HNO.out (j + 1) (by rw [HWJ.out, ← List.append_assoc]; exact not_nodup_snoc hin))
      clear HFJ
      generalize addF (k : Int) F (l.take j) = F1 at *
      cases hv : F1 xv with
      | none =>
       have HX := hid (HD2.out.not hv)
       have hM4 := hM3.alloc (.cells #[.int .i64 0, .int .i64 0, .bool false] 165)
       have hA4 := hA3.alloc (.cells #[.int .i64 0, .int .i64 0, .bool false] 165)
       have hb4 := hb3.alloc hb3.size (.cells #[.int .i64 0, .int .i64 0, .bool false] 165)
       clear HNJ
       go_wp2_with (first | (at_lookup; refine wpList_lookI_ok _ rfl _ _ 102 rfl 3 165 keyI mapIW wZ (zeroW _) _ _ _ _ rfl hM3 _ rfl hkv ?_; rw [hv]; simp only [Option.getD_none, Option.isSome_none, eW, wZ]) | (at_mapUpdate; refine wpList_putI _ rfl _ _ _ 102 rfl 3 165 keyI mapIW _ _ _ _ rfl hM4 (by unfold maxLen; omega) _ rfl hkv ⟨k, xk, false⟩ rfl ?_; intro w5 hM5 hg5; go_frame) | go_in)
       have hb5 := hb4.grown hg5 hb4.size (fun j hj => by cases hj; omega)
       have hA5 := hA4.grown hg5 (fun e => by cases e; omega)
       rw [hv] at hM5
       simp only [Option.isSome_none, Bool.false_eq_true, if_false] at hM5
       clear hM4 hA4 hb4 hg5 hM3 hA3 hb3
       go_wp2_with fail
       go_roundw
       case rel => exact ⟨j + 1, m + 1, by omega, by go_num, by omega, by rw [HWJ.out, ← List.append_assoc]; exact nodup_snoc HN2.out HX.out, by rw [HWJ.out, HFJ2.out, ← List.append_assoc]; exact HD2.out.put _ _, by rw [HWJ.out, HFJ2.out, ← List.append_assoc]; simpa [Nat.add_assoc] using hM5, hA5, hb5⟩
       case measure => simp [intOf]; omega
      | some u =>
       have H := hid (HNJ.out (HD2.out.yes hv))
       obtain ⟨ui, uk, ul⟩ := u
       have hb4 := hb3.alloc hb3.size (.cells #[.int .i64 ui, .int .i64 uk, .bool ul] 165)
       clear HNJ
       go_wp2_with (first | (at_lookup; refine wpList_lookI_ok _ rfl _ _ 102 rfl 3 165 keyI mapIW wZ (zeroW _) _ _ _ _ rfl hM3 _ rfl hkv ?_; rw [hv]; simp only [Option.getD_some, Option.isSome_some, eW]) | go_in)
       refine bodyPost_ret (v := .tuple #[.map none, .bool false]) (by simp [results, Tryz.results52, go_sem]) rfl ⟨hb4, .inl ⟨H.out, rfl⟩⟩
    ·have hj2 : j = l.length := by omega
     subst hj2
     rw [List.take_length] at hM2 HN2 HD2
     obtain ⟨q0, q1, q2, q3⟩ := hA2.cells4
     have CW := hid (writes_any s b c _ l wr (HOP.out _ hb2) HTK.out.2 (by omega))
     have hRR := hid (refWrites_rise HKK.out)
     clear HNO
     go_wp2_with fail
     refine (CW.out).mono ?_
     rintro e w6 ⟨v2, out, rfl, hO, hRise, hle2, hb6⟩
     obtain rfl := hRise.eq hRR.out
     have hM6 := hM2.below hb6
     have hb7 := below_then hb2 hb6
     have hO7 := hO.base (base' := 0) (Nat.zero_le _)
     have HWV := hid (rise_wv hRise)
     have HTO := hid (fun o (ho : o ∈ refWrites l) => HTK.out.2 o (lastW_key (((hRise.2 o).1 ho).1)).2.2)
     have hspl := hO.split
     have hwl := hM2.lt
     obtain ⟨ao2, cap2, rfl, hl2⟩ := hO7.ops.form
     have HNE : Hid (∀ g o q, ao2 = some (⟨g, o, q⟩ : Addr) → Value.ownBlock (.slice (some ⟨g, o, q⟩) (refWrites l).length cap2) ≠ some w.heap.size) := hid (fun g o q e hh => by
      rcases hspl with ⟨e1, _⟩ | ⟨g3, cap3, e1, hg3⟩
      ·rw [e] at e1; simp at e1
      ·rw [e] at e1; simp [Value.ownBlock] at e1 hh; omega)
     clear hO hRise hRR CW hM2 hA2 hb2 hb6 q0 q1 q2 q3
     generalize refWrites l = R at *
     generalize addF (k : Int) F l = F1 at *
     generalize hWW : W ++ wv l = W1 at *
     have HWW := hid hWW
     clear hWW
     go_wp2_with fail
     go_loopw [50] (fun i wx => ∃ j m2 : Nat, j ≤ R.length ∧ i = .int .i64 j ∧ m2 ≤ 2 * opsN (h.take k) + l.length + j ∧ Dom (finF (k : Int) F1 (R.take j)) W1 ∧ MapI eW Tryz.prog 3 wx w.heap.size m2 (finF (k : Int) F1 (R.take j)) W1.length ∧ Own wx 0 (.slice ao2 R.length cap2) R ∧ Below w.heap.size w wx) (fun i _ => R.length - (intOf i).toNat)
     case atStart => exact ⟨0, m, by omega, rfl, by omega, HD2.out, hM6, hO7, hb7⟩
     case round =>
      obtain ⟨j, m2, hj2, rfl, hmm3, hD3, hM8, hO8, hb8⟩ := hrel
      have HD3 := hid hD3
      clear hD3 hM6 hO7 hb7
      by_cases hltj : j < R.length
      ·have hkj : (j : Int) < (R.length : Int) := by omega
       obtain ⟨g2, o2, hao2, e0, e1, e2⟩ := hO8.ops.at hltj
       cases hao2
       have HFJ : Hid (finF (k : Int) F1 (R.take (j + 1)) = putF (finF (k : Int) F1 (R.take j)) R[j].val ⟨k, R[j].key, true⟩) := hid (by rw [take_snoc R j hltj, finF_snoc])
       have hox := HTO.out R[j] (List.getElem_mem hltj)
       have hin := HWV.out R[j] (List.getElem_mem hltj)
       generalize R[j] = x at *
       obtain ⟨xw, xk, xv⟩ := x
       simp only at e0 e1 e2 HFJ hin
       have hkv := inI_of hox.2
       have hinW : Hid (xv ∈ W1) := hid (by rw [← HWW.out]; exact List.mem_append_right _ hin)
       have hM9 := hM8.alloc (.cells #[.bool xw, .int .i64 xk, .int .i64 xv] 79)
       have hO9 : Own _ _ _ _ := World.ownsRow.alloc hO8 (.cells #[.bool xw, .int .i64 xk, .int .i64 xv] 79)
       have hb9 := hb8.alloc hb8.size (.cells #[.bool xw, .int .i64 xk, .int .i64 xv] 79)
       have hszj := hb8.size
       have hne9 : Value.ownBlock (.slice (some ⟨g2, o2, none⟩) R.length cap2) ≠ some w.heap.size := HNE.out _ _ _ rfl
       clear hox hin hM8 hO8 hb8
       generalize finF (k : Int) F1 (R.take j) = F2 at *
       go_wp2_with (first | (at_mapUpdate; refine wpList_putI _ rfl _ _ _ 102 rfl 3 165 keyI mapIW _ _ _ _ rfl hM9 (by unfold maxLen; omega) _ rfl hkv ⟨k, xk, true⟩ rfl ?_; intro w5 hM5 hg5; go_frame) | go_in)
       have hb5 := hb9.grown hg5 hb9.size (fun j hj => by cases hj; omega)
       have hO5 : Own w5 0 (.slice (some ⟨g2, o2, none⟩) R.length cap2) R := World.ownsRow.kept hO9 hg5 (.inr hne9)
       have hsome : (F2 xv).isSome = true := by rw [HD3.out xv]; simpa using hinW.out
       rw [hsome] at hM5
       simp only [if_true] at hM5
       clear hM9 hO9 hb9 hg5 hsome
       go_wp2_with fail
       go_roundw
       case rel => exact ⟨j + 1, m2 + 1, by omega, by go_num, by omega, by rw [HFJ.out]; exact HD3.out.again hinW.out _, by rw [HFJ.out]; exact hM5, hO5, hb5⟩
       case measure => simp [intOf]; omega
      ·have hj3 : j = R.length := by omega
       subst hj3
       rw [List.take_length] at hM8 HD3
       have HW1 : Hid (wvH (h.take (k + 1)) = W1) := hid HW.out
       go_wp2_with fail
       go_roundw
       case rel => exact ⟨k + 1, m2, by omega, by go_num, by omega, by rw [HW1.out]; exact HN2.out, by rw [HW1.out, HR.out]; exact HD3.out, by rw [HW1.out, HR.out]; exact hM8, hb8⟩
       case measure => simp [intOf]; omega
  ·have hkl : k = h.length := by omega
   subst hkl
   have H : Hid (okW h = true) := hid (by have := HND.out; rw [List.take_length] at this; unfold okW; simpa using this)
   rw [List.take_length] at hM
   go_wp2_with fail
   refine bodyPost_ret (v := .tuple #[.map (some w.heap.size), .bool true]) (by simp [results, Tryz.results52, go_sem]) rfl ⟨hb, .inr ⟨H.out, _, _, rfl, Nat.le_refl _, hM⟩⟩
end

section
open Go.RowKit
def fromO (F : Int → Option WV) (x : Int) : Int := ((F x).map (·.i)).getD (-1)
def rdFr (F : Int → Option WV) (i : Int) (l : List OpV) : List (Int × Int) := (l.filter fun o => fromO F o.val != i).map fun o => (o.key, fromO F o.val)
def frV (l : List (Int × Int)) : List Value := l.flatMap fun p => [.int .i64 p.1, .int .i64 p.2]
theorem frV_app (l m : List (Int × Int)) : frV (l ++ m) = frV l ++ frV m := by simp [frV]
theorem rdFr_snoc (F : Int → Option WV) (i : Int) (l : List OpV) (k : Nat) (hk : k < l.length) : rdFr F i (l.take (k + 1)) = rdFr F i (l.take k) ++ (if fromO F l[k].val = i then [] else [(l[k].key, fromO F l[k].val)]) := by
 unfold rdFr
 rw [List.take_succ_eq_append_getElem hk, List.filter_append, List.map_append]
 by_cases h : fromO F l[k].val = i <;> simp [h]
theorem rdFr_len (F : Int → Option WV) (i : Int) (l : List OpV) : (rdFr F i l).length ≤ l.length := by
 unfold rdFr; rw [List.length_map]; exact List.length_filter_le _ _
theorem infoRd : (Tryz.prog.info? 121).map (fun i => (i.zero, i.size, i.bytes)) = some (some (.agg #[.int .i64 0, .int .i64 0]), 2, 16) := by kernel_rfl
theorem lit_two (w : World) (x y : Value) (t : TypeId) : ∀ j u, [x, y][j]? = some u → (w.alloc (.cells #[x, y] t)).cell? ((⟨w.heap.size, 0, none⟩ : Addr).add j) = some u := by
 have h := At.new w (.cells #[x, y] t)
 unfold At at h
 generalize w.alloc (.cells #[x, y] t) = w1 at *
 generalize w.heap.size = p at *
 intro j u hu
 rcases j with _ | _ | j
 ·simp at hu; subst hu; simp [World.cell?, Addr.add, h]
 ·simp at hu; subst hu; simp [World.cell?, Addr.add, h]
 ·simp at hu
theorem own_base' {w : World} {base base' : Nat} {v : Value} {e : TypeId} {size n : Nat} {xs : List Value} (h : w.ownsRow base e size v n xs) (hb : base' ≤ base) : w.ownsRow base' e size v n xs := by
 obtain ⟨h1, h2⟩ := h
 refine ⟨h1, ?_⟩
 rcases h2 with h2 | ⟨g, cap, cur, e1, e2, r⟩
 ·exact .inl h2
 ·exact .inr ⟨g, cap, cur, e1, Nat.le_trans hb e2, r⟩
theorem oreads_any (i s b c : Int) (va : Value) (l : List OpV) (F : Int → Option WV) (bm n cc : Nat) (w : World) (ha : Ops w va l) (hok : ∀ o ∈ l, o.ok) (hlen : l.length ≤ 100000) (hM : MapI eW Tryz.prog 3 w bm n F cc) :
  Calls Tryz.prog 54 #[.int .i64 i, .agg #[.int .i64 s, .int .i64 b, .int .i64 c, va], .map (some bm)] w fun e w' => ∃ v out, e = .returned v ∧ w'.ownsRow w.heap.size 121 2 v (rdFr F i out).length (frV (rdFr F i out)) ∧ Rise (firstO l) false out ∧ out.length ≤ l.length ∧ Below w.heap.size w w' := by
 obtain ⟨i0, hi, hz0, hz1, hz2⟩ := info_parts infoRd
 obtain ⟨ao, cap, rfl, hal⟩ := ha.form
 have hb0 := box_below w (.cells #[.int .i64 s, .int .i64 b, .int .i64 c, .slice ao l.length cap] 83)
 have CW := hid (reads_any s b c _ l _ (ha.below hb0) hok hlen)
 have HOK := hid hok
 have HMM := hid (fun wx (hx : Below w.heap.size w wx) => hM.below hx)
 clear ha hok hM
 go_enter Tryz.func54, Tryz.ntmps54
 go_wp2_with fail
 refine (CW.out).mono ?_
 rintro e w1 ⟨v1, out, rfl, hO, hR, hol, hb1⟩
 have hb2 := below_then hb0 hb1
 have HR := hid (And.intro hR hol)
 have HV := hid (fun o (ho : o ∈ out) => HOK.out o (firstO_key (((hR.2 o).1 ho).1)).2)
 have HM := hid ((HMM.out _ hb2))
 have hlim : out.length ≤ 100000 := by omega
 clear CW hb0 hb1 hR hol HOK HMM
 obtain ⟨B, hB⟩ : ∃ B, B = w1.heap.size := ⟨_, rfl⟩
 have hBw : w.heap.size ≤ B := by have := hb2.size; omega
 have hBl : B ≤ w1.heap.size := by omega
 have HB := hid hB
 clear hB
 have hT := hO.ops
 clear hO
 obtain ⟨a1, cap1, rfl, _⟩ := hT.form
 go_wp2_with fail
 go_loopw [7, 15] (fun v j wr => ∃ k : Nat, k ≤ out.length ∧ j = .int .i64 k ∧ wr.ownsRow B 121 2 v (rdFr F i (out.take k)).length (frV (rdFr F i (out.take k))) ∧ Below B w1 wr)
  (fun _ j _ => out.length - (intOf j).toNat)
 case atStart => exact ⟨0, by omega, rfl, World.ownsRow_nil _ _ _ _, HB.out ▸ Below.refl _ _⟩
 case round =>
  obtain ⟨k, hk, rfl, hown, hb⟩ := hrel
  have hsz := hb.size
  by_cases hlt : k < out.length
  ·have hki : (k : Int) < (out.length : Int) := by omega
   obtain ⟨g, o, hao, c0, c1, c2⟩ := (hT.below (HB.out ▸ hb)).at hlt
   cases hao
   have HS := hid (rdFr_snoc F i out k hlt)
   have hkl : (rdFr F i (out.take k)).length ≤ 100000 := Nat.le_trans (rdFr_len _ _ _) (by rw [List.length_take]; omega)
   have hkv := inI_of (HV.out out[k] (List.getElem_mem hlt)).2
   have hM2 := (HM.out.below (HB.out ▸ hb)).alloc (.cells #[.bool out[k].wr, .int .i64 out[k].key, .int .i64 out[k].val] 79)
   generalize out[k].wr = x at *
   generalize out[k].key = y at *
   generalize out[k].val = z at *
   have hbx := hb.alloc (by omega) (.cells #[.bool x, .int .i64 y, .int .i64 z] 79)
   have hownx := hown.alloc (.cells #[.bool x, .int .i64 y, .int .i64 z] 79)
   cases hv : F z with
   | none =>
    have hf : fromO F z = -1 := by unfold fromO; rw [hv]; rfl
    rw [hf] at HS
    have hby := hbx.alloc (by have := hbx.size; omega) (.cells #[.int .i64 (-1), .int .i64 0, .bool false] 165)
    have howny := hownx.alloc (.cells #[.int .i64 (-1), .int .i64 0, .bool false] 165)
    by_cases hfi : (-1) = i
    ·rw [if_pos hfi, List.append_nil] at HS
     subst hfi
     go_wp2_with (at_lookup; refine wpList_lookI_ok _ rfl _ _ 102 rfl 3 165 keyI mapIW wZ (zeroW _) _ _ _ _ rfl hM2 _ rfl hkv ?_; rw [hv]; simp only [Option.getD_none, Option.isSome_none, eW, wZ])
     go_roundw
     case rel => exact ⟨k + 1, by omega, by go_num, by rw [HS.out]; exact howny, hby⟩
     case measure => simp [intOf]; omega
    ·rw [if_neg hfi] at HS
     go_wp2_with (first | (at_lookup; refine wpList_lookI_ok _ rfl _ _ 102 rfl 3 165 keyI mapIW wZ (zeroW _) _ _ _ _ rfl hM2 _ rfl hkv ?_; rw [hv]; simp only [Option.getD_none, Option.isSome_none, eW, wZ]) | (at_builtin; refine wpList_append_own _ rfl _ _ 114 rfl B 121 i0 (.agg #[.int .i64 0, .int .i64 0]) 2 16 Tryz.underlying114 hi hz0 hz1 hz2 rfl (by decide) _ _ _ rfl (howny.alloc _) ⟨_, 0, none⟩ 1 1 [.int .i64 y, .int .i64 (-1)] rfl rfl ?c1 ?c2 ?c3 ?c4 ?c5 ?_))
     case c1 =>
      have e : wr.heap.size + 1 + 1 = ((wr.alloc (.cells #[.bool x, .int .i64 y, .int .i64 z] 79)).alloc (.cells #[.int .i64 (-1), .int .i64 0, .bool false] 165)).heap.size := by simp
      rw [e]
      exact lit_two _ _ _ _
     case c2 => intro u hu; simp at hu; rcases hu with rfl | rfl <;> rfl
     case c3 => unfold maxLen; omega
     case c4 => omega
     case c5 => simp; omega
     ·intro v' w2 hown' hgrow _
      have hb' := below_app hby (by omega) howny hgrow
      clear hown hownx howny hbx hby hb hgrow
      go_wp2_with fail
      go_roundw
      case rel =>
       refine ⟨k + 1, by omega, by go_num, ?_, hb'⟩
       rw [HS.out, frV_app, List.length_append]
       exact hown'
      case measure => simp [intOf]; omega
   | some u =>
    have hf : fromO F z = u.i := by unfold fromO; rw [hv]; rfl
    rw [hf] at HS
    obtain ⟨ui, uk, ul⟩ := u
    simp only at HS
    have hby := hbx.alloc (by have := hbx.size; omega) (.cells #[.int .i64 ui, .int .i64 uk, .bool ul] 165)
    have howny := hownx.alloc (.cells #[.int .i64 ui, .int .i64 uk, .bool ul] 165)
    by_cases hfi : ui = i
    ·rw [if_pos hfi, List.append_nil] at HS
     subst hfi
     go_wp2_with (at_lookup; refine wpList_lookI_ok _ rfl _ _ 102 rfl 3 165 keyI mapIW wZ (zeroW _) _ _ _ _ rfl hM2 _ rfl hkv ?_; rw [hv]; simp only [Option.getD_some, Option.isSome_some, eW])
     go_roundw
     case rel => exact ⟨k + 1, by omega, by go_num, by rw [HS.out]; exact howny, hby⟩
     case measure => simp [intOf]; omega
    ·rw [if_neg hfi] at HS
     go_wp2_with (first | (at_lookup; refine wpList_lookI_ok _ rfl _ _ 102 rfl 3 165 keyI mapIW wZ (zeroW _) _ _ _ _ rfl hM2 _ rfl hkv ?_; rw [hv]; simp only [Option.getD_some, Option.isSome_some, eW]) | (at_builtin; refine wpList_append_own _ rfl _ _ 114 rfl B 121 i0 (.agg #[.int .i64 0, .int .i64 0]) 2 16 Tryz.underlying114 hi hz0 hz1 hz2 rfl (by decide) _ _ _ rfl (howny.alloc _) ⟨_, 0, none⟩ 1 1 [.int .i64 y, .int .i64 ui] rfl rfl ?c1 ?c2 ?c3 ?c4 ?c5 ?_))
     case c2 => exact ⟨rfl, rfl⟩
     case c3 => unfold maxLen; omega
     case c4 => omega
     case c5 => omega
     ·intro v' w2 hown' hgrow _
      have hb' := below_app hby (by omega) howny hgrow
      clear hown hownx howny hbx hby hb hgrow
      go_wp2_with fail
      go_roundw
      case rel =>
       refine ⟨k + 1, by omega, by go_num, ?_, hb'⟩
       rw [HS.out, frV_app, List.length_append]
       exact hown'
      case measure => simp [intOf]; omega
  ·have hkl : k = out.length := by omega
   subst hkl
   rw [List.take_length] at hown
   go_wp2_with fail
   go_ret
   exact ⟨_, out, rfl, own_base' hown hBw, HR.out.1, HR.out.2, hb2.trans (hb.mono hBw)⟩
end

section
open Go.RowKit
def badFr (F : Int → Option WV) (i : Int) (o : OpV) : Bool := match F o.val with | none => false | some u => decide (u.i = i) || !u.last
theorem anyf_take {f : OpV → Bool} {l : List OpV} {k : Nat} (hk : k < l.length) (h : (l.take k).any f = false) : (l.take (k + 1)).any f = f l[k] := by
 rw [List.take_succ_eq_append_getElem hk, List.any_append, h]; simp
theorem anyf_hit {f : OpV → Bool} {l : List OpV} {k : Nat} (hk : k < l.length) (h : f l[k] = true) : l.any f = true := List.any_eq_true.2 ⟨_, List.getElem_mem hk, h⟩
theorem osound_any (i s b c : Int) (va : Value) (l : List OpV) (F : Int → Option WV) (bm n cc : Nat) (w : World) (ha : Ops w va l) (hok : ∀ o ∈ l, o.ok) (hlen : l.length ≤ 100000) (hM : MapI eW Tryz.prog 3 w bm n F cc) :
  Calls Tryz.prog 55 #[.int .i64 i, .agg #[.int .i64 s, .int .i64 b, .int .i64 c, va], .map (some bm)] w fun e w' => ∃ out, e = .returned (.bool (!out.any (badFr F i) && steadyL l)) ∧ Rise (firstO l) false out ∧ out.length ≤ l.length ∧ Below w.heap.size w w' := by
 obtain ⟨ao, cap, rfl, hal⟩ := ha.form
 have hb0 := box_below w (.cells #[.int .i64 s, .int .i64 b, .int .i64 c, .slice ao l.length cap] 83)
 have CW := hid (reads_any s b c _ l _ (ha.below hb0) hok hlen)
 have HOK := hid hok
 have HA := hid (fun wx (hx : Below w.heap.size w wx) => ha.below hx)
 have HMM := hid (fun wx (hx : Below w.heap.size w wx) => hM.below hx)
 have hx0 := txnBlock w (.int .i64 s) (.int .i64 b) (.int .i64 c) (.slice ao l.length cap) 83
 have hA0 := At.new w (.cells #[.int .i64 s, .int .i64 b, .int .i64 c, .slice ao l.length cap] 83)
 clear ha hok hM hx0
 go_enter Tryz.func55, Tryz.ntmps55
 go_wp2_with fail
 refine (CW.out).mono ?_
 rintro e w1 ⟨v1, out, rfl, hO, hR, hol, hb1⟩
 have hb2 := below_then hb0 hb1
 have hA1 := hA0.below hb1
 have HR := hid (And.intro hR hol)
 have HV := hid (fun o (ho : o ∈ out) => HOK.out o (firstO_key (((hR.2 o).1 ho).1)).2)
 have HM := hid ((HMM.out _ hb2))
 have hlim : out.length ≤ 100000 := by omega
 clear CW hb0 hb1 hR hol HMM hA0
 have hT := hO.ops
 clear hO
 obtain ⟨a1, cap1, rfl, _⟩ := hT.form
 go_wp2_with fail
 go_loopw [14] (fun j wr => ∃ k : Nat, k ≤ out.length ∧ j = .int .i64 k ∧ (out.take k).any (badFr F i) = false ∧ Below w1.heap.size w1 wr)
  (fun j _ => out.length - (intOf j).toNat)
 case atStart => exact ⟨0, by omega, rfl, rfl, Below.refl _ _⟩
 case round =>
  obtain ⟨k, hk, rfl, hno, hb⟩ := hrel
  have HNO := hid hno
  clear hno
  have hsz := hb.size
  by_cases hlt : k < out.length
  ·have hki : (k : Int) < (out.length : Int) := by omega
   obtain ⟨g, o, hao, c0, c1, c2⟩ := (hT.below hb).at hlt
   cases hao
   have HS := hid (anyf_take hlt HNO.out)
   have HH := hid (fun h => anyf_hit (f := badFr F i) hlt h)
   have HBD : Hid (badFr F i out[k] = match F out[k].val with | none => false | some u => decide (u.i = i) || !u.last) := hid rfl
   have hkv := inI_of (HV.out out[k] (List.getElem_mem hlt)).2
   have hM2 := (HM.out.below hb).alloc (.cells #[.bool out[k].wr, .int .i64 out[k].key, .int .i64 out[k].val] 79)
   generalize badFr F i out[k] = bd at *
   generalize out[k].wr = x at *
   generalize out[k].key = y at *
   generalize out[k].val = z at *
   have hbx := hb.alloc hb.size (.cells #[.bool x, .int .i64 y, .int .i64 z] 79)
   cases hv : F z with
   | none =>
    have HF : Hid (bd = false) := hid (by rw [HBD.out, hv])
    have hby := hbx.alloc hbx.size (.cells #[.int .i64 0, .int .i64 0, .bool false] 165)
    clear HBD
    go_wp2_with (at_lookup; refine wpList_lookI_ok _ rfl _ _ 102 rfl 3 165 keyI mapIW wZ (zeroW _) _ _ _ _ rfl hM2 _ rfl hkv ?_; rw [hv]; simp only [Option.getD_none, Option.isSome_none, eW, wZ])
    go_roundw
    case rel => exact ⟨k + 1, by omega, by go_num, by rw [HS.out, HF.out], hby⟩
    case measure => simp [intOf]; omega
   | some u =>
    obtain ⟨ui, uk, ul⟩ := u
    have HF : Hid (bd = (decide (ui = i) || !ul)) := hid (by rw [HBD.out, hv])
    have hby := hbx.alloc hbx.size (.cells #[.int .i64 ui, .int .i64 uk, .bool ul] 165)
    clear HBD
    by_cases hfi : ui = i
    ·have HB2 : Hid (bd = true) := hid (by rw [HF.out, decide_eq_true hfi]; rfl)
     subst hfi
     go_wp2_with (at_lookup; refine wpList_lookI_ok _ rfl _ _ 102 rfl 3 165 keyI mapIW wZ (zeroW _) _ _ _ _ rfl hM2 _ rfl hkv ?_; rw [hv]; simp only [Option.getD_some, Option.isSome_some, eW])
     go_ret
     exact ⟨out, by rw [HH.out HB2.out]; rfl, HR.out.1, HR.out.2, hb2.trans (hby.mono hb2.size)⟩
    ·cases ul with
     | false =>
      have HB2 : Hid (bd = true) := hid (by rw [HF.out]; simp)
      go_wp2_with (at_lookup; refine wpList_lookI_ok _ rfl _ _ 102 rfl 3 165 keyI mapIW wZ (zeroW _) _ _ _ _ rfl hM2 _ rfl hkv ?_; rw [hv]; simp only [Option.getD_some, Option.isSome_some, eW])
      go_ret
      exact ⟨out, by rw [HH.out HB2.out]; rfl, HR.out.1, HR.out.2, hb2.trans (hby.mono hb2.size)⟩
     | true =>
      have HB2 : Hid (bd = false) := hid (by rw [HF.out, decide_eq_false hfi]; rfl)
      go_wp2_with (at_lookup; refine wpList_lookI_ok _ rfl _ _ 102 rfl 3 165 keyI mapIW wZ (zeroW _) _ _ _ _ rfl hM2 _ rfl hkv ?_; rw [hv]; simp only [Option.getD_some, Option.isSome_some, eW])
      go_roundw
      case rel => exact ⟨k + 1, by omega, by go_num, by rw [HS.out, HB2.out], hby⟩
      case measure => simp [intOf]; omega
  ·have hkl : k = out.length := by omega
   subst hkl
   have HNA : Hid (out.any (badFr F i) = false) := hid (by have h := HNO.out; rwa [List.take_length] at h)
   obtain ⟨q0, q1, q2, q3⟩ := (hA1.below hb).cells4
   have hb3 := hb2.trans (hb.mono hb2.size)
   have CS := hid (steady_any s b c _ l wr (HA.out _ hb3) HOK.out hlen)
   go_wp2_with fail
   refine (CS.out).mono ?_
   rintro e w6 ⟨rfl, hb6⟩
   have hb7 := hb3.trans (hb6.mono hb3.size)
   go_wp2_with fail
   go_ret
   exact ⟨out, by rw [HNA.out]; rfl, HR.out.1, HR.out.2, hb7⟩
end

end Go.Proofs.YtnhkjehfmbfmmaaGreatDoor
