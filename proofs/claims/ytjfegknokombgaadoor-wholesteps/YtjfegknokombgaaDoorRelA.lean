/- Walks: may, Has, Union, Within of relations. Conditions: a relation's array is the one of a table of yes and no. -/
import Derived.Test.YtjfegknokombgaaDoorRelM
import Derived.Test.YtjfegknokombgaaDoorSetG
import Derived.StillTailTactics
import Derived.Laws.Tables
import Derived.Laws.CopyOwn
import Derived.Deep.QuietTactic
import Derived.BigQuiet
namespace Go.Proofs.YtjfegknokombgaaDoor
set_option maxRecDepth 100000
open Go.RowKit

def mayB (n : Int) : Bool := decide (0 ≤ n ∧ n < 64)
set_option maxHeartbeats 400000 in
theorem may_any (n : Int) (w : World) :
    Calls Tryd.prog 60 #[.int .i64 n] w fun e w' => e = .returned (.bool (mayB n)) ∧ w = w' := by
  have H : Hid ((decide (0 ≤ n) && decide (n < 64)) = mayB n) := Lib.hid (by unfold mayB; simp)
  by_cases h0 : 0 ≤ n
  · have H1 : Hid (decide (n < 64) = mayB n) := Lib.hid (by rw [← H.out]; simp [h0])
    go_enter Tryd.func60, Tryd.ntmps60
    go_wp2
    go_ret
    exact ⟨ret_b H1.out, rfl⟩
  · have H1 : Hid (false = mayB n) := Lib.hid (by rw [← H.out]; simp [h0])
    go_enter Tryd.func60, Tryd.ntmps60
    go_wp2
    go_ret
    exact ⟨ret_b H1.out, rfl⟩
theorem may_yes (n : Int) (w : World) (h : 0 ≤ n ∧ n < 64) : Calls Tryd.prog 60 #[.int .i64 n] w fun e w' => e = .returned (.bool true) ∧ w = w' := by
  have := may_any n w
  rwa [show mayB n = true from by unfold mayB; simp [h]] at this
theorem may_no (n : Int) (w : World) (h : ¬ (0 ≤ n ∧ n < 64)) : Calls Tryd.prog 60 #[.int .i64 n] w fun e w' => e = .returned (.bool false) ∧ w = w' := by
  have := may_any n w
  rwa [show mayB n = false from by unfold mayB; simp [h]] at this

/-- Does a stand to b, of any numbers? -/
def hasR (R : Mat) (a b : Int) : Bool := mayB a && hasB (mkS (R a.toNat)) b
set_option maxHeartbeats 400000 in
theorem rhasR_any (R : Mat) (a b : Int) (w : World) :
    Calls Tryd.prog 47 #[.agg (rowsA R), .int .i64 a, .int .i64 b] w fun e w' => e = .returned (.bool (hasR R a b)) ∧ Below w.heap.size w w' := by
  by_cases ha : 0 ≤ a ∧ a < 64
  · obtain ⟨i, rfl⟩ := Int.eq_ofNat_of_zero_le ha.1
    have hi : i < 64 := by omega
    have CM := Lib.hid (fun wx => may_yes (i : Int) wx ha)
    have HR : Hid (hasB (mkS (R i)) b = hasR R (i : Int) b) := Lib.hid (by unfold hasR mayB; simp [ha])
    have hc := (RelAt.new w 27 R).cell hi
    have hset := isSet_mkS (R i)
    clear ha
    generalize mkS (R i) = s at *
    go_enter Tryd.func47, Tryd.ntmps47
    go_wp2_with (first
      | (go_at_call 60; refine (CM.out _).mono ?_; rintro e w' ⟨rfl, rfl⟩)
      | (go_at_call 61; refine (has_any s b _ hset).mono ?_; rintro e w' ⟨rfl, rfl⟩))
    go_ret
    exact ⟨ret_b HR.out, (Below.refl _ _).alloc (Nat.le_refl _) _⟩
  · have CM := Lib.hid (fun wx => may_no a wx ha)
    have HR : Hid (false = hasR R a b) := Lib.hid (by unfold hasR mayB; simp [ha])
    clear ha
    go_enter Tryd.func47, Tryd.ntmps47
    go_wp2_with (go_at_call 60; refine (CM.out _).mono ?_; rintro e w' ⟨rfl, rfl⟩)
    go_ret
    exact ⟨ret_b HR.out, (Below.refl _ _).alloc (Nat.le_refl _) _⟩

theorem infoRel : (Tryd.prog.info? 27).map (·.size) = some 64 := by kernel_rfl
theorem infoRel' (R : Mat) : (Tryd.prog.info? 27).map (·.size) = some (rowsA R).size := by rw [rowsA_size]; exact infoRel
theorem rows_one (R : Mat) : (rowsA R).all (·.oneCell') = true := by
  rw [Array.all_eq_true_iff_forall_mem]
  intro v hv
  have : v ∈ (rowsA R).toList := by simpa using hv
  simp only [rowsA, List.toList_toArray, List.mem_map] at this
  obtain ⟨i, _, rfl⟩ := this
  rfl
theorem RelAt.setRow {w : World} {g : Nat} {t : TypeId} {R : Mat} (h : RelAt w g t R) (S : Mat) : RelAt (w.setRow g (rowsA S)) g t S := setRow_heap w g _ _ t _ h
theorem zeroRel (w : World) (t : TypeId) : w.alloc (.cells (Array.replicate 64 (.int .u64 0)) t) = w.alloc (.cells (rowsA noR) t) := by rw [rowsA_none]

/-- A whole relation read out of its block, and written into one. -/
theorem wpList_load_rel {ops : Array Oper} {rest : List Oper} {o : Oper} {a : Act} {w : World} {Q : Exit → Act → World → Prop} {g : Nat} {R : Mat} (h : RelAt w g 27 R) (hgd : o.guard = none) (x : Operand) (ho : o.op = .load 27 x)
    (hx : a.eval x = .pointer (some ⟨g, 0, none⟩)) (hn : wpList Tryd.prog ops Q rest (a.put o.dst (.agg (rowsA R))) w) : wpList Tryd.prog ops Q (o :: rest) a w :=
  wpList_load_row hgd 27 x ho g hx _ (rowsA R) _ _ h Tryd.underlying27 rfl (infoRel' _) hn
theorem wpList_store_rel {ops : Array Oper} {rest : List Oper} {o : Oper} {a : Act} {w : World} {Q : Exit → Act → World → Prop} {g : Nat} {S : Mat} (h : RelAt w g 27 S) (R : Mat) (hgd : o.guard = none) (x y : Operand) (ho : o.op = .store 27 x y)
    (hx : a.eval x = .pointer (some ⟨g, 0, none⟩)) (hy : a.eval y = .agg (rowsA R)) (hn : wpList Tryd.prog ops Q rest (a.put o.dst undef) (w.setRow g (rowsA R))) : wpList Tryd.prog ops Q (o :: rest) a w :=
  wpList_store_row hgd 27 x y ho g (rowsA R) hx hy _ _ h (infoRel' _) (by rw [rowsA_size, rowsA_size]) (rows_one _) hn
theorem results_rel {fn : Func} {p : Tmp} (h : fn.results = #[.cell p 27]) (tmps : Array Value) (w : World) (g : Nat) (R : Mat)
    (hp : tmps.getD p undef = .pointer (some ⟨g, 0, none⟩)) (hg : RelAt w g 27 R) : (results fn tmps).run Tryd.prog w = .ok (.agg (rowsA R)) w :=
  results_cell_row h tmps w g _ (rowsA R) _ _ hp hg Tryd.underlying27 rfl (infoRel' _)
theorem RelAt.setRow' {w : World} {g : Nat} {t : TypeId} {R : Mat} (h : RelAt w g t R) {S S' : Mat} (e : rowsA S = rowsA S') : RelAt (w.setRow g (rowsA S)) g t S' := by
  have := h.setRow S
  unfold RelAt at *
  rw [this, e]
def orR (R S : Mat) : Mat := fun i j => R i j || S i j
/-- The union, done for the rows below k. -/
def orTo (R S : Mat) (k : Nat) : Mat := fun i j => if i < k then R i j || S i j else R i j
theorem mkS_or (p q : Nat → Bool) : mkS p ||| mkS q = mkS fun j => p j || q j := by
  apply mkS_eq (isSet_or (isSet_mkS p) (isSet_mkS q))
  intro i hi
  rw [Nat.testBit_or, testBit_mkS, testBit_mkS]; simp [hi]
theorem orTo_step (R S : Mat) (k : Nat) : rowSet (orTo R S k) k (fun j => R k j || S k j) = orTo R S (k + 1) := by
  funext i j
  unfold rowSet orTo
  by_cases h : i = k
  · subst h; simp
  · rw [if_neg h]
    by_cases h2 : i < k
    · rw [if_pos h2, if_pos (by omega)]
    · rw [if_neg h2, if_neg (by omega)]
theorem orTo_at (R S : Mat) (k : Nat) : orTo R S k k = R k := by funext j; unfold orTo; rw [if_neg (by omega)]
theorem orTo_end (R S : Mat) : rowsA (orTo R S 64) = rowsA (orR R S) := rowsA_congr fun i j hi _ => by unfold orTo orR; rw [if_pos hi]
theorem u64_or (p q : Nat → Bool) : Go.bits .or .u64 ((mkS p : Nat) : Int) ((mkS q : Nat) : Int) = ((mkS (fun j => p j || q j) : Nat) : Int) := by
  rw [Go.bits_or_u64_nat _ _ (isSet_mkS p) (isSet_mkS q), mkS_or]
set_option maxHeartbeats 1000000 in
theorem union_any (R S : Mat) (w : World) :
    Calls Tryd.prog 42 #[.agg (rowsA R), .agg (rowsA S)] w fun e w' => e = .returned (.agg (rowsA (orR R S))) ∧ Below w.heap.size w w' := by
  go_enter Tryd.func42, Tryd.ntmps42
  go_wp2
  go_loopw [6] (fun i wr => ∃ k : Nat, k ≤ 64 ∧ i = .int .i64 k ∧ RelAt wr w.heap.size 27 (orTo R S k) ∧ RelAt wr (w.heap.size + 1) 27 S ∧ RelAt wr (w.heap.size + 2) 27 noR ∧ Below w.heap.size w wr)
    (fun i _ => 64 - (intOf i).toNat)
  case atStart =>
    have e0 : rowsA R = rowsA (orTo R S 0) := rowsA_congr fun i j _ _ => by unfold orTo; rw [if_neg (by omega)]
    refine ⟨0, by omega, rfl, ?_, ?_, ?_, ?_⟩
    · exact ((RelAt.made w _ (orTo R S 0) rfl e0).alloc _).alloc _
    · exact (RelAt.made _ _ S (by simp) rfl).alloc _
    · exact RelAt.made _ _ noR (by simp) (by rw [rowsA_none]; rfl)
    · exact (((Below.refl w.heap.size w).alloc (Nat.le_refl _) _).alloc (by simp) _).alloc (by simp; omega) _
  case round =>
    obtain ⟨k, hk, rfl, h0, h1, h2, hb⟩ := hrel
    by_cases hlt : k < 64
    · have hc0 := h0.cell hlt
      have hc1 := h1.cell hlt
      rw [orTo_at] at hc0
      have hf := h0.free k
      have HO := u64_or (R k) (S k)
      have HS := Lib.hid (orTo_step R S k)
      have HN := Lib.hid (h0.store k _ (fun j => R k j || S k j) rfl)
      have H1 := Lib.hid (h1.other (k := ⟨w.heap.size, k, none⟩) (by simp) (.int .u64 ((mkS (fun j => R k j || S k j) : Nat) : Int)))
      have H2 := Lib.hid (h2.other (k := ⟨w.heap.size, k, none⟩) (by simp) (.int .u64 ((mkS (fun j => R k j || S k j) : Nat) : Int)))
      have HB := Lib.hid (hb.setCell (p := ⟨w.heap.size, k, none⟩) (Nat.le_refl _) (.int .u64 ((mkS (fun j => R k j || S k j) : Nat) : Int)))
      clear h0 h1 h2 hb
      generalize mkS (fun j => R k j || S k j) = z at *
      generalize mkS (R k) = x at *
      generalize mkS (S k) = y at *
      go_wp2
      go_still_tail 8, (by kernel_rfl)
      go_wp2
      go_roundw
      case rel => exact ⟨k + 1, by omega, by go_num, by rw [← HS.out]; exact HN.out, H1.out, H2.out, HB.out.drew⟩
      case measure => simp [intOf]; omega
    · have hk64 : k = 64 := by omega
      subst hk64
      go_wp2_with (first
        | (with_reducible refine wpList_load_rel h0 rfl _ rfl rfl ?_)
        | (with_reducible refine wpList_store_rel h2 (orTo R S 64) rfl _ _ rfl rfl rfl ?_))
      have h3 := h2.setRow (orTo R S 64)
      rw [orTo_end] at h3
      exact bodyPost_ret (results_rel rfl _ _ _ _ rfl h3) rfl ⟨rfl, below_setRow hb (by omega) _⟩
end Go.Proofs.YtjfegknokombgaaDoor
