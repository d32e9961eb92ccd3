/- Walks and plain facts that the proof of the statement BruteLeast uses, joined: RelA RelC RelB RelD RelE RelJ RelP RelK BruC BruD LeaA MapI TxnM TxnA TxnB TxnD TxnE TxnF. Conditions: each theorem's own. -/
import Derived.Test.YtfancjmhdbaoeaaGreatDoorShelfS
import Derived.StillTailTactics
import Derived.Laws.Tables
import Derived.Laws.CopyOwn
import Derived.Deep.QuietTactic
import Derived.BigQuiet
import Derived.Shelf.Abstract
import Derived.OwnWalkIn
import Derived.TacticsInMore
import Derived.LoopNIn
import Derived.LoopIn
import Derived.Deep.AppendLies
import Derived.ArgAppend
import Derived.Maps.RangeWalk
import Derived.WalkKit
import Derived.WalkSmall
import Derived.Laws.StructEq
import Derived.OwnWalk
import Derived.Test.YtfancjmhdbaoeaaGreatDoorPBruteLeast0
namespace Go.Proofs.YtfancjmhdbaoeaaGreatDoor
set_option maxRecDepth 100000
open Go.RowKit

def mayB (n : Int) : Bool := decide (0 ≤ n ∧ n < 64)
set_option maxHeartbeats 400000 in
theorem rmayn_any (n : Int) (w : World) :
    Calls Tryz.prog 128 #[.int .i64 n] w fun e w' => e = .returned (.bool (mayB n)) ∧ w = w' := by
  have H : Hid ((decide (0 ≤ n) && decide (n < 64)) = mayB n) := Lib.hid (by unfold mayB; simp)
  by_cases h0 : 0 ≤ n
  · have H1 : Hid (decide (n < 64) = mayB n) := Lib.hid (by rw [← H.out]; simp [h0])
    go_enter Tryz.func128, Tryz.ntmps128
    go_wp2
    go_ret
    exact ⟨ret_b H1.out, rfl⟩
  · have H1 : Hid (false = mayB n) := Lib.hid (by rw [← H.out]; simp [h0])
    go_enter Tryz.func128, Tryz.ntmps128
    go_wp2
    go_ret
    exact ⟨ret_b H1.out, rfl⟩
theorem may_yes (n : Int) (w : World) (h : 0 ≤ n ∧ n < 64) : Calls Tryz.prog 128 #[.int .i64 n] w fun e w' => e = .returned (.bool true) ∧ w = w' := by
  have := rmayn_any n w
  rwa [show mayB n = true from by unfold mayB; simp [h]] at this
theorem may_no (n : Int) (w : World) (h : ¬ (0 ≤ n ∧ n < 64)) : Calls Tryz.prog 128 #[.int .i64 n] w fun e w' => e = .returned (.bool false) ∧ w = w' := by
  have := rmayn_any n w
  rwa [show mayB n = false from by unfold mayB; simp [h]] at this

/-- Does a stand to b, of any numbers? -/
def hasR (R : Mat) (a b : Int) : Bool := mayB a && hasB (mkS (R a.toNat)) b
set_option maxHeartbeats 400000 in
theorem rhasR_any (R : Mat) (a b : Int) (w : World) :
    Calls Tryz.prog 64 #[.agg (rowsA R), .int .i64 a, .int .i64 b] w fun e w' => e = .returned (.bool (hasR R a b)) ∧ Below w.heap.size w w' := by
  by_cases ha : 0 ≤ a ∧ a < 64
  · obtain ⟨i, rfl⟩ := Int.eq_ofNat_of_zero_le ha.1
    have hi : i < 64 := by omega
    have CM := Lib.hid (fun wx => may_yes (i : Int) wx ha)
    have HR : Hid (hasB (mkS (R i)) b = hasR R (i : Int) b) := Lib.hid (by unfold hasR mayB; simp [ha])
    have hc := (RelAt.new w 37 R).cell hi
    have hset := isSet_mkS (R i)
    clear ha
    generalize mkS (R i) = s at *
    go_enter Tryz.func64, Tryz.ntmps64
    go_wp2_with (first
      | (go_at_call 128; refine (CM.out _).mono ?_; rintro e w' ⟨rfl, rfl⟩)
      | (go_at_call 92; refine (has_any s b _ hset).mono ?_; rintro e w' ⟨rfl, rfl⟩))
    go_ret
    exact ⟨ret_b HR.out, (Below.refl _ _).alloc (Nat.le_refl _) _⟩
  · have CM := Lib.hid (fun wx => may_no a wx ha)
    have HR : Hid (false = hasR R a b) := Lib.hid (by unfold hasR mayB; simp [ha])
    clear ha
    go_enter Tryz.func64, Tryz.ntmps64
    go_wp2_with (go_at_call 128; refine (CM.out _).mono ?_; rintro e w' ⟨rfl, rfl⟩)
    go_ret
    exact ⟨ret_b HR.out, (Below.refl _ _).alloc (Nat.le_refl _) _⟩

theorem infoRel : (Tryz.prog.info? 37).map (·.size) = some 64 := by kernel_rfl
theorem infoRel' (R : Mat) : (Tryz.prog.info? 37).map (·.size) = some (rowsA R).size := by rw [rowsA_size]; exact infoRel
theorem rows_one (R : Mat) : (rowsA R).all (·.oneCell') = true := by
  rw [Array.all_eq_true_iff_forall_mem]
  intro v hv
  have : v ∈ (rowsA R).toList := by simpa using hv
  simp only [rowsA, List.toList_toArray, List.mem_map] at this
  obtain ⟨i, _, rfl⟩ := this
  rfl
theorem RelAt.setRow {w : World} {g : Nat} {t : TypeId} {R : Mat} (h : RelAt w g t R) (S : Mat) : RelAt (w.setRow g (rowsA S)) g t S := setRow_heap w g _ _ t _ h
/-- A whole relation read out of its block, and written into one. -/
theorem wpList_load_rel {ops : Array Oper} {rest : List Oper} {o : Oper} {a : Act} {w : World} {Q : Exit → Act → World → Prop} {g : Nat} {R : Mat} (h : RelAt w g 37 R) (hgd : o.guard = none) (x : Operand) (ho : o.op = .load 37 x)
    (hx : a.eval x = .pointer (some ⟨g, 0, none⟩)) (hn : wpList Tryz.prog ops Q rest (a.put o.dst (.agg (rowsA R))) w) : wpList Tryz.prog ops Q (o :: rest) a w :=
  wpList_load_row hgd 37 x ho g hx _ (rowsA R) _ _ h Tryz.underlying37 rfl (infoRel' _) hn
theorem wpList_store_rel {ops : Array Oper} {rest : List Oper} {o : Oper} {a : Act} {w : World} {Q : Exit → Act → World → Prop} {g : Nat} {S : Mat} (h : RelAt w g 37 S) (R : Mat) (hgd : o.guard = none) (x y : Operand) (ho : o.op = .store 37 x y)
    (hx : a.eval x = .pointer (some ⟨g, 0, none⟩)) (hy : a.eval y = .agg (rowsA R)) (hn : wpList Tryz.prog ops Q rest (a.put o.dst undef) (w.setRow g (rowsA R))) : wpList Tryz.prog ops Q (o :: rest) a w :=
  wpList_store_row hgd 37 x y ho g (rowsA R) hx hy _ _ h (infoRel' _) (by rw [rowsA_size, rowsA_size]) (rows_one _) hn
theorem results_rel {fn : Func} {p : Tmp} (h : fn.results = #[.cell p 37]) (tmps : Array Value) (w : World) (g : Nat) (R : Mat)
    (hp : tmps.getD p undef = .pointer (some ⟨g, 0, none⟩)) (hg : RelAt w g 37 R) : (results fn tmps).run Tryz.prog w = .ok (.agg (rowsA R)) w :=
  results_cell_row h tmps w g _ (rowsA R) _ _ hp hg Tryz.underlying37 rfl (infoRel' _)
theorem RelAt.setRow' {w : World} {g : Nat} {t : TypeId} {R : Mat} (h : RelAt w g t R) {S S' : Mat} (e : rowsA S = rowsA S') : RelAt (w.setRow g (rowsA S)) g t S' := by
  have := h.setRow S
  unfold RelAt at *
  rw [this, e]
def orR (R S : Mat) : Mat := fun i j => R i j || S i j
/-- The union, done for the rows below k. -/
def orTo (R S : Mat) (k : Nat) : Mat := fun i j => if i < k then R i j || S i j else R i j
theorem mkS_or (p q : Nat → Bool) : mkS p ||| mkS q = mkS fun j => p j || q j := by
  apply mkS_eq (isSet_or (isSet_mkS p) (isSet_mkS q))
  intro i hi
  rw [Nat.testBit_or, testBit_mkS, testBit_mkS]; simp [hi]
theorem orTo_step (R S : Mat) (k : Nat) : rowSet (orTo R S k) k (fun j => R k j || S k j) = orTo R S (k + 1) := by
  funext i j
  unfold rowSet orTo
  by_cases h : i = k
  · subst h; simp
  · rw [if_neg h]
    by_cases h2 : i < k
    · rw [if_pos h2, if_pos (by omega)]
    · rw [if_neg h2, if_neg (by omega)]
theorem orTo_at (R S : Mat) (k : Nat) : orTo R S k k = R k := by funext j; unfold orTo; rw [if_neg (by omega)]
theorem orTo_end (R S : Mat) : rowsA (orTo R S 64) = rowsA (orR R S) := rowsA_congr fun i j hi _ => by unfold orTo orR; rw [if_pos hi]
theorem u64_or (p q : Nat → Bool) : Go.bits .or .u64 ((mkS p : Nat) : Int) ((mkS q : Nat) : Int) = ((mkS (fun j => p j || q j) : Nat) : Int) := by
  rw [Go.bits_or_u64_nat _ _ (isSet_mkS p) (isSet_mkS q), mkS_or]
set_option maxHeartbeats 1000000 in
theorem union_any (R S : Mat) (w : World) :
    Calls Tryz.prog 117 #[.agg (rowsA R), .agg (rowsA S)] w fun e w' => e = .returned (.agg (rowsA (orR R S))) ∧ Below w.heap.size w w' := by
  go_enter Tryz.func117, Tryz.ntmps117
  go_wp2
  go_loopw [6] (fun i wr => ∃ k : Nat, k ≤ 64 ∧ i = .int .i64 k ∧ RelAt wr w.heap.size 37 (orTo R S k) ∧ RelAt wr (w.heap.size + 1) 37 S ∧ RelAt wr (w.heap.size + 2) 37 noR ∧ Below w.heap.size w wr)
    (fun i _ => 64 - (intOf i).toNat)
  case atStart =>
    have e0 : rowsA R = rowsA (orTo R S 0) := rowsA_congr fun i j _ _ => by unfold orTo; rw [if_neg (by omega)]
    refine ⟨0, by omega, rfl, ?_, ?_, ?_, ?_⟩
    · exact ((RelAt.made w _ (orTo R S 0) rfl e0).alloc _).alloc _
    · exact (RelAt.made _ _ S (by simp) rfl).alloc _
    · exact RelAt.made _ _ noR (by simp) (by rw [rowsA_none]; rfl)
    · exact (((Below.refl w.heap.size w).alloc (Nat.le_refl _) _).alloc (by simp) _).alloc (by simp; omega) _
  case round =>
    obtain ⟨k, hk, rfl, h0, h1, h2, hb⟩ := hrel
    by_cases hlt : k < 64
    · have hc0 := h0.cell hlt
      have hc1 := h1.cell hlt
      rw [orTo_at] at hc0
      have hf := h0.free k
      have HO := u64_or (R k) (S k)
      have HS := Lib.hid (orTo_step R S k)
      have HN := Lib.hid (h0.store k _ (fun j => R k j || S k j) rfl)
      have H1 := Lib.hid (h1.other (k := ⟨w.heap.size, k, none⟩) (by simp) (.int .u64 ((mkS (fun j => R k j || S k j) : Nat) : Int)))
      have H2 := Lib.hid (h2.other (k := ⟨w.heap.size, k, none⟩) (by simp) (.int .u64 ((mkS (fun j => R k j || S k j) : Nat) : Int)))
      have HB := Lib.hid (hb.setCell (p := ⟨w.heap.size, k, none⟩) (Nat.le_refl _) (.int .u64 ((mkS (fun j => R k j || S k j) : Nat) : Int)))
      clear h0 h1 h2 hb
      generalize mkS (fun j => R k j || S k j) = z at *
      generalize mkS (R k) = x at *
      generalize mkS (S k) = y at *
      go_wp2
      go_still_tail 8, (by kernel_rfl)
      go_wp2
      go_roundw
      case rel => exact ⟨k + 1, by omega, by go_num, by rw [← HS.out]; exact HN.out, H1.out, H2.out, HB.out.drew⟩
      case measure => simp [intOf]; omega
    · have hk64 : k = 64 := by omega
      subst hk64
      go_wp2_with (first
        | (with_reducible refine wpList_load_rel h0 rfl _ rfl rfl ?_)
        | (with_reducible refine wpList_store_rel h2 (orTo R S 64) rfl _ _ rfl rfl rfl ?_))
      have h3 := h2.setRow (orTo R S 64)
      rw [orTo_end] at h3
      exact bodyPost_ret (results_rel rfl _ _ _ _ rfl h3) rfl ⟨rfl, below_setRow hb (by omega) _⟩
end Go.Proofs.YtfancjmhdbaoeaaGreatDoor

namespace Go.Proofs.YtfancjmhdbaoeaaGreatDoor
set_option maxRecDepth 100000

/-- One comes from i to j, in one step or more, by numbers below 64. -/
inductive Path (R : Mat) : Nat → Nat → Prop
  | one {i j : Nat} : R i j = true → Path R i j
  | more {i m j : Nat} : R i m = true → m < 64 → Path R m j → Path R i j
theorem Path.trans {R : Mat} {i m j : Nat} (h : Path R i m) (hm : m < 64) (k : Path R m j) : Path R i j := by
  induction h with
  | one h => exact .more h hm k
  | more h h2 _ ih => exact .more h h2 (ih hm k)
theorem Path.mono {R S : Mat} {i j : Nat} (h : Path R i j) (hRS : ∀ a b, R a b = true → S a b = true) : Path S i j := by
  induction h with
  | one h => exact .one (hRS _ _ h)
  | more h h2 _ ih => exact .more (hRS _ _ h) h2 ih
/-- One pass: what comes by m is added on. -/
def wPass (R : Mat) (m : Nat) : Mat := fun i j => R i j || (R i m && R m j)
/-- The pass, done for the rows below k. -/
def wTo (R : Mat) (m k : Nat) : Mat := fun i j => if i < k then wPass R m i j else R i j
def cloTo (R : Mat) : Nat → Mat
  | 0 => R
  | m + 1 => wPass (cloTo R m) m
def clo (R : Mat) : Mat := cloTo R 64
theorem cloTo_path (R : Mat) : ∀ (k : Nat), k ≤ 64 → ∀ i j, cloTo R k i j = true → Path R i j
  | 0, _, i, j, h => .one h
  | k + 1, hk, i, j, h => by
    have h' : (cloTo R k i j || (cloTo R k i k && cloTo R k k j)) = true := h
    rw [Bool.or_eq_true, Bool.and_eq_true] at h'
    rcases h' with h' | ⟨h1, h2⟩
    · exact cloTo_path R k (by omega) i j h'
    · exact (cloTo_path R k (by omega) i k h1).trans (by omega) (cloTo_path R k (by omega) k j h2)
theorem cloTo_sub (R : Mat) (i j : Nat) (h : R i j = true) : ∀ k, cloTo R k i j = true
  | 0 => h
  | k + 1 => by
    show (cloTo R k i j || _) = true
    rw [cloTo_sub R i j h k]; rfl
theorem cloTo_trans (R : Mat) : ∀ (k : Nat) (i m j : Nat), m < k → cloTo R k i m = true → cloTo R k m j = true → cloTo R k i j = true
  | 0, _, _, _, h, _, _ => by omega
  | k + 1, i, m, j, hm, h1, h2 => by
    have ih := cloTo_trans R k
    have e1 : (cloTo R k i m || (cloTo R k i k && cloTo R k k m)) = true := h1
    have e2 : (cloTo R k m j || (cloTo R k m k && cloTo R k k j)) = true := h2
    show (cloTo R k i j || (cloTo R k i k && cloTo R k k j)) = true
    generalize cloTo R k = A at *
    rw [Bool.or_eq_true, Bool.and_eq_true] at *
    by_cases hmk : m = k
    · subst hmk
      exact .inr ⟨e1.elim id (·.1), e2.elim id (·.2)⟩
    · have hlt : m < k := by omega
      rcases e1 with a | ⟨a1, a2⟩ <;> rcases e2 with b | ⟨b1, b2⟩
      · exact .inl (ih i m j hlt a b)
      · exact .inr ⟨ih i m k hlt a b1, b2⟩
      · exact .inr ⟨a1, ih k m j hlt a2 b⟩
      · exact .inr ⟨a1, b2⟩
theorem clo_iff (R : Mat) (i j : Nat) : clo R i j = true ↔ Path R i j := by
  constructor
  · exact cloTo_path R 64 (Nat.le_refl _) i j
  · intro h
    induction h with
    | one h => exact cloTo_sub R _ _ h 64
    | more h hm _ ih => exact cloTo_trans R 64 _ _ _ hm (cloTo_sub R _ _ h 64) ih
theorem wTo_row (R : Mat) (m k : Nat) : wTo R m k m = R m := by
  funext j
  unfold wTo wPass
  split
  · cases R m m <;> cases R m j <;> rfl
  · rfl
theorem wTo_at (R : Mat) (m k : Nat) : wTo R m k k = R k := by funext j; unfold wTo; rw [if_neg (by omega)]
theorem wTo_hit (R : Mat) (m k : Nat) (h : R k m = true) : rowSet (wTo R m k) k (fun j => R k j || R m j) = wTo R m (k + 1) := by
  funext i j
  unfold rowSet wTo
  by_cases e : i = k
  · subst e; rw [if_pos rfl, if_pos (by omega)]; unfold wPass; rw [h]; simp
  · rw [if_neg e]
    by_cases h2 : i < k
    · rw [if_pos h2, if_pos (by omega)]
    · rw [if_neg h2, if_neg (by omega)]
theorem wTo_miss (R : Mat) (m k : Nat) (h : R k m = false) : wTo R m (k + 1) = wTo R m k := by
  funext i j
  unfold wTo
  by_cases e : i = k
  · subst e; rw [if_pos (by omega), if_neg (by omega)]; unfold wPass; rw [h]; simp
  · by_cases h2 : i < k
    · rw [if_pos h2, if_pos (by omega)]
    · rw [if_neg h2, if_neg (by omega)]
theorem wTo_end (R : Mat) (m : Nat) : rowsA (wTo R m 64) = rowsA (wPass R m) := rowsA_congr fun i j hi _ => by unfold wTo; rw [if_pos hi]
end Go.Proofs.YtfancjmhdbaoeaaGreatDoor

namespace Go.Proofs.YtfancjmhdbaoeaaGreatDoor
set_option maxRecDepth 100000
open Go.RowKit

theorem infoSet : (Tryz.prog.info? 35).map (·.size) = some 1 := by kernel_rfl
theorem run_index_rel (R : Mat) (k : Nat) (hk : k < 64) (w : World) :
    (Instr.index 37 (.agg (rowsA R)) (.int .i64 (k : Int))).run Tryz.prog w = .ok (.int .u64 ((mkS (R k) : Nat) : Int)) w := by
  have h1 := rowsA_at R hk
  obtain ⟨i, hi, hs⟩ := Option.map_eq_some_iff.1 infoSet
  simp [Instr.index, asIntOf, Sem.run_bind, run_underlying Tryz.underlying37 w, hk, sizeOf, typeInfo, hi, hs, part, isAgg, h1]

def inMTo (R S : Mat) (k : Nat) : Bool := (List.range k).all fun i => inB (mkS (R i)) (mkS (S i))
/-- Is a relation within another one? -/
def inM (R S : Mat) : Bool := inMTo R S 64
theorem inMTo_succ (R S : Mat) (k : Nat) : inMTo R S (k + 1) = (inMTo R S k && inB (mkS (R k)) (mkS (S k))) := by
  unfold inMTo
  rw [List.range_succ, List.all_append]; simp
theorem inMTo_no (R S : Mat) (k : Nat) (hk : k < 64) (h : inB (mkS (R k)) (mkS (S k)) = false) : false = inM R S := by
  symm
  unfold inM inMTo
  rw [List.all_eq_false]
  exact ⟨k, List.mem_range.2 hk, by simp [h]⟩
set_option maxHeartbeats 1000000 in
theorem withinR_any (R S : Mat) (w : World) :
    Calls Tryz.prog 129 #[.agg (rowsA R), .agg (rowsA S)] w fun e w' => e = .returned (.bool (inM R S)) ∧ Below w.heap.size w w' := by
  go_enter Tryz.func129, Tryz.ntmps129
  go_wp2
  go_loopw [6] (fun i wr => ∃ k : Nat, k ≤ 64 ∧ i = .int .i64 k ∧ inMTo R S k = true ∧ RelAt wr w.heap.size 37 R ∧ RelAt wr (w.heap.size + 1) 37 S ∧ Below w.heap.size w wr)
    (fun i _ => 64 - (intOf i).toNat)
  case atStart =>
    refine ⟨0, by omega, rfl, rfl, ?_, ?_, ?_⟩
    · exact (RelAt.made w _ R rfl rfl).alloc _
    · exact RelAt.made _ _ S (by simp) rfl
    · exact ((Below.refl w.heap.size w).alloc (Nat.le_refl _) _).alloc (by simp) _
  case round =>
    obtain ⟨k, hk, rfl, hin, h0, h1, hb⟩ := hrel
    have HI := Lib.hid hin
    clear hin
    by_cases hlt : k < 64
    · have hc0 := h0.cell hlt
      have hc1 := h1.cell hlt
      have H0 := Lib.hid h0
      have H1 := Lib.hid h1
      have HS := Lib.hid (inMTo_succ R S k)
      have HN := Lib.hid (inMTo_no R S k hlt)
      have hs0 := isSet_mkS (R k)
      have hs1 := isSet_mkS (S k)
      clear h0 h1
      generalize mkS (R k) = x at *
      generalize mkS (S k) = y at *
      have C : ∀ wx, Calls Tryz.prog 93 #[.int .u64 (x : Int), .int .u64 (y : Int)] wx fun e w' => e = .returned (.bool (inB x y)) ∧ w' = wx :=
        fun wx => (within_any x y wx hs0 hs1).mono fun _ _ h => ⟨h.1, h.2.symm⟩
      cases hh : inB x y
      all_goals
        rw [hh] at C
        have CH := Lib.hid C
        have HE := Lib.hid hh
        clear C hh
        go_wp2
        go_quiet ((go_at_call 93; exact Calls.quiet_of_same (CH.out _)))
        go_wp2
      · go_ret
        exact ⟨ret_b (HN.out HE.out), below_drewN hb _⟩
      · go_roundw
        case rel => exact ⟨k + 1, by omega, by go_num, by rw [HS.out, HI.out, HE.out]; rfl, H0.out, H1.out, below_drewN hb _⟩
        case measure => simp [intOf]; omega
    · have hk64 : k = 64 := by omega
      subst hk64
      have HI' : Hid (true = inM R S) := Lib.hid HI.out.symm
      go_wp2
      go_ret
      exact ⟨ret_b HI'.out, hb⟩

theorem hasB_mkS (p : Nat → Bool) (n : Nat) (hn : n < 64) : hasB (mkS p) (n : Int) = p n := by
  unfold hasB
  have h : 0 ≤ (n : Int) ∧ (n : Int) < 64 := by omega
  rw [Int.toNat_natCast, testBit_mkS]
  simp [h, hn]
set_option maxHeartbeats 2000000 in
theorem rclos_any (R : Mat) (w : World) :
    Calls Tryz.prog 157 #[.agg (rowsA R)] w fun e w' => e = .returned (.agg (rowsA (clo R))) ∧ Below w.heap.size w w' := by
  go_enter Tryz.func157, Tryz.ntmps157
  go_wp2
  go_loopw [5] (fun i wr => ∃ m : Nat, m ≤ 64 ∧ i = .int .i64 m ∧ RelAt wr w.heap.size 37 (cloTo R m) ∧ RelAt wr (w.heap.size + 1) 37 noR ∧ Below w.heap.size w wr)
    (fun i _ => 64 - (intOf i).toNat)
  case atStart =>
    refine ⟨0, by omega, rfl, ?_, ?_, ?_⟩
    · exact (RelAt.made w _ R rfl rfl).alloc _
    · exact RelAt.made _ _ noR (by simp) (by rw [rowsA_none]; rfl)
    · exact ((Below.refl w.heap.size w).alloc (Nat.le_refl _) _).alloc (by simp) _
  case round =>
    obtain ⟨m, hm, rfl, h0, h1, hb⟩ := hrel
    by_cases hlt : m < 64
    · have HE : Hid (rowsA (wTo (cloTo R m) m 64) = rowsA (cloTo R (m + 1))) := Lib.hid (wTo_end _ _)
      have HA : Hid (rowsA (cloTo R m) = rowsA (wTo (cloTo R m) m 0)) := Lib.hid (rowsA_congr fun i j _ _ => by unfold wTo; rw [if_neg (by omega)])
      have H0 := Lib.hid h0
      clear h0
      generalize cloTo R m = A at *
      have hdm : decide ((m : Int) < 64) = true := by simp; omega
      go_wp2_with fail
      go_loopw [8] (fun i wx => ∃ k : Nat, k ≤ 64 ∧ i = .int .i64 k ∧ RelAt wx w.heap.size 37 (wTo A m k) ∧ RelAt wx (w.heap.size + 1) 37 noR ∧ Below w.heap.size w wx)
        (fun i _ => 64 - (intOf i).toNat)
      case atStart => exact ⟨0, by omega, rfl, by have := H0.out; unfold RelAt at *; rw [← HA.out]; exact this, h1, hb⟩
      case round =>
        obtain ⟨k, hk, rfl, hx0, hx1, hxb⟩ := hrel
        by_cases hlk : k < 64
        · have hc0 := hx0.cell hlk
          have hc1 := hx0.cell hlt
          rw [wTo_at] at hc0
          rw [wTo_row] at hc1
          have hf := hx0.free k
          have C := fun wx => has_any (mkS (A k)) (m : Int) wx (isSet_mkS _)
          rw [hasB_mkS _ _ hlt] at C
          cases hh : A k m
          · rw [hh] at C
            have CH := Lib.hid C
            have HM := Lib.hid (wTo_miss A m k hh)
            have HX := Lib.hid hx0
            clear C hh hx0
            generalize mkS (A k) = x at *
            generalize mkS (A m) = y at *
            go_wp2_with (go_at_call 92; refine (CH.out _).mono ?_; rintro e w' ⟨rfl, rfl⟩)
            go_roundw
            case rel => exact ⟨k + 1, by omega, by go_num, by rw [HM.out]; exact HX.out, hx1, hxb⟩
            case measure => simp [intOf]; omega
          · rw [hh] at C
            have CH := Lib.hid C
            have HM := Lib.hid (wTo_hit A m k hh)
            have HO := u64_or (A k) (A m)
            have HN := Lib.hid (hx0.store k _ (fun j => A k j || A m j) rfl)
            have H1 := Lib.hid (hx1.other (k := ⟨w.heap.size, k, none⟩) (by simp) (.int .u64 ((mkS (fun j => A k j || A m j) : Nat) : Int)))
            have HB := Lib.hid (hxb.setCell (p := ⟨w.heap.size, k, none⟩) (Nat.le_refl _) (.int .u64 ((mkS (fun j => A k j || A m j) : Nat) : Int)))
            clear C hh hx0 hx1 hxb
            generalize mkS (fun j => A k j || A m j) = z at *
            generalize mkS (A k) = x at *
            generalize mkS (A m) = y at *
            have hmi : (m : Int) < 64 := by omega
            have hki : (k : Int) < 64 := by omega
            go_wp2_with (go_at_call 92; refine (CH.out _).mono ?_; rintro e w' ⟨rfl, rfl⟩)
            go_still_tail 8, (by kernel_rfl)
            go_wp2
            go_roundw
            case rel => exact ⟨k + 1, by omega, by go_num, by rw [← HM.out]; exact HN.out, H1.out, HB.out.drew⟩
            case measure => simp [intOf]; omega
        · have hk64 : k = 64 := by omega
          subst hk64
          have HX : Hid (RelAt _ w.heap.size 37 (cloTo R (m + 1))) := Lib.hid (by unfold RelAt at *; rw [← HE.out]; exact hx0)
          clear hx0
          go_wp2
          go_roundw
          case rel => exact ⟨m + 1, by omega, by go_num, HX.out, hx1, hxb⟩
          case measure => simp [intOf]; omega
    · have hm64 : m = 64 := by omega
      subst hm64
      go_wp2_with (first
        | (with_reducible refine wpList_load_rel h0 rfl _ rfl rfl ?_)
        | (with_reducible refine wpList_store_rel h1 (cloTo R 64) rfl _ _ rfl rfl rfl ?_))
      exact bodyPost_ret (results_rel rfl _ _ _ _ rfl (h1.setRow (cloTo R 64))) rfl ⟨rfl, below_setRow hb (by omega) _⟩
end Go.Proofs.YtfancjmhdbaoeaaGreatDoor

namespace Go.Proofs.YtfancjmhdbaoeaaGreatDoor
set_option maxRecDepth 100000
open Go.RowKit

theorem withS_mkS (q : Nat → Bool) (a : Nat) (ha : a < 64) : withS (mkS q) (a : Int) = mkS fun j => q j || decide (j = a) := by
  apply mkS_eq (isSet_withS (isSet_mkS q))
  intro i hi
  rw [testBit_withS, testBit_mkS]
  have h : 0 ≤ (a : Int) ∧ (a : Int) < 64 := by omega
  simp only [hi, h, decide_true, Bool.true_and, and_self, Int.toNat_natCast]
  congr 1
  rw [Bool.eq_iff_iff]; simp; exact ⟨fun h => h.symm, fun h => h.symm⟩
theorem lst_lt {s k : Nat} (hk : k < (lst s).length) : (lst s)[k] < 64 := (mem_lst.1 (List.getElem_mem hk)).1
end Go.Proofs.YtfancjmhdbaoeaaGreatDoor

namespace Go.Proofs.YtfancjmhdbaoeaaGreatDoor
set_option maxRecDepth 100000
open Go.RowKit

/-- Who one comes to by one of some numbers. -/
def viaL (S : Mat) (L : List Nat) (j : Nat) : Bool := L.any fun m => S m j
def thenR (R S : Mat) : Mat := fun i j => (List.range 64).any fun m => R i m && S m j
/-- One behind the other, done for the rows below a, and of row a as far as q says. -/
def thTo (R S : Mat) (a : Nat) (q : Nat → Bool) : Mat := fun i j => if i < a then thenR R S i j else if i = a then q j else false
theorem viaL_lst (R S : Mat) (a j : Nat) : viaL S (lst (mkS (R a))) j = thenR R S a j := by
  unfold viaL thenR
  rw [lst_mkS, List.any_filter]
theorem viaL_take (S : Mat) (L : List Nat) (k : Nat) (hk : k < L.length) (j : Nat) : viaL S (L.take (k + 1)) j = (viaL S (L.take k) j || S L[k] j) := by
  unfold viaL
  rw [List.take_succ_eq_append_getElem hk, List.any_append]; simp
theorem thTo_at (R S : Mat) (a : Nat) (q : Nat → Bool) : thTo R S a q a = q := by
  funext j; unfold thTo; rw [if_neg (by omega), if_pos rfl]
theorem thTo_step (R S : Mat) (a : Nat) (q q' : Nat → Bool) : rowSet (thTo R S a q) a q' = thTo R S a q' := by
  funext i j
  unfold rowSet thTo
  by_cases e : i = a
  · subst e; rw [if_pos rfl, if_neg (by omega), if_pos rfl]
  · rw [if_neg e]; simp [e]
theorem thTo_next (R S : Mat) (a : Nat) (q : Nat → Bool) (h : ∀ j, q j = thenR R S a j) : rowsA (thTo R S a q) = rowsA (thTo R S (a + 1) fun _ => false) := by
  apply rowsA_congr
  intro i j _ _
  unfold thTo
  by_cases e : i = a
  · subst e; rw [if_neg (by omega), if_pos rfl, if_pos (by omega), h]
  · by_cases h2 : i < a
    · rw [if_pos h2, if_pos (by omega)]
    · rw [if_neg h2, if_neg e, if_neg (by omega)]; simp
theorem thTo_start (R S : Mat) : rowsA noR = rowsA (thTo R S 0 fun _ => false) := rowsA_congr fun i j _ _ => by unfold thTo noR; simp
theorem thTo_end (R S : Mat) : rowsA (thTo R S 64 fun _ => false) = rowsA (thenR R S) := rowsA_congr fun i j hi _ => by unfold thTo; rw [if_pos hi]
set_option maxHeartbeats 2000000 in
theorem then_any (R S : Mat) (w : World) (ht : Tab w) :
    Calls Tryz.prog 132 #[.agg (rowsA R), .agg (rowsA S)] w fun e w' => e = .returned (.agg (rowsA (thenR R S))) ∧ Below w.heap.size w w' := by
  have hg := ht.pos
  have HT : Hid (∀ wx, Below w.heap.size w wx → Tab wx) := Lib.hid (fun wx hb => ht.below hb hg)
  clear ht
  have h0 : RelAt (w.alloc (.cells (rowsA R) 37)) w.heap.size 37 R := RelAt.new w _ R
  go_enter Tryz.func132, Tryz.ntmps132
  go_wp2_with (with_reducible refine wpList_load_rel (((h0.alloc _).alloc _).alloc _) rfl _ rfl rfl ?_)
  go_loopw [11] (fun i wr => ∃ a : Nat, a ≤ 64 ∧ i = .int .i64 a ∧ RelAt wr (w.heap.size + 3) 37 (thTo R S a fun _ => false) ∧ RelAt wr (w.heap.size + 2) 37 noR ∧ RelAt wr (w.heap.size + 1) 37 S ∧ Below w.heap.size w wr)
    (fun i _ => 64 - (intOf i).toNat)
  case atStart =>
    refine ⟨0, by omega, rfl, ?_, ?_, ?_, ?_⟩
    · exact RelAt.made _ _ _ (by simp) (by rw [← thTo_start, rowsA_none]; rfl)
    · exact (RelAt.made _ _ noR (by simp) (by rw [rowsA_none]; rfl)).alloc _
    · exact ((RelAt.made _ _ S (by simp) rfl).alloc _).alloc _
    · exact ((((Below.refl w.heap.size w).alloc (Nat.le_refl _) _).alloc (by simp) _).alloc (by simp; omega) _).alloc (by simp; omega) _
  case round =>
    obtain ⟨a, ha, rfl, h3, h2, h1, hb⟩ := hrel
    by_cases hlt : a < 64
    · have hidx := fun wx => run_index_rel R a hlt wx
      have hda : decide ((a : Int) < 64) = true := by simp; omega
      have HNX := Lib.hid (thTo_next R S a (viaL S (lst (mkS (R a)))) (viaL_lst R S a))
      have hset := isSet_mkS (R a)
      have hlen := lstTo_len (mkS (R a)) 64
      have HL : Hid (∀ (k : Nat) (hk : k < (lst (mkS (R a))).length), (lst (mkS (R a)))[k] < 64) := Lib.hid (fun k hk => lst_lt hk)
      have hlen' : (lst (mkS (R a))).length ≤ 64 := hlen
      clear hlen
      generalize mkS (R a) = x at *
      have hal : (a : Int) < 64 := by omega
      go_wp2_with fail
      refine (list_any x wr hset (HT.out _ hb)).mono ?_
      rintro e w1 ⟨v, rfl, hown, hb1⟩
      have h3' := h3.below hb1 h3.lt
      have h2' := h2.below hb1 h2.lt
      have h1' := h1.below hb1 h1.lt
      have hbb := hb.trans (hb1.mono hb.size)
      have hD : w.heap.size + 3 < wr.heap.size := h3.lt
      clear hb1 hb h1 h2 h3 hset
      generalize wr.heap.size = D at *
      generalize lst x = L at *
      obtain ⟨ao, cap, rfl, hml⟩ := (Ints.of_nats hown).form
      rw [List.length_map] at *
      go_wp2_with fail
      go_loopw [18] (fun i wx => ∃ k : Nat, k ≤ L.length ∧ i = .int .i64 k ∧ RelAt wx (w.heap.size + 3) 37 (thTo R S a (viaL S (L.take k))) ∧ RelAt wx (w.heap.size + 2) 37 noR ∧ RelAt wx (w.heap.size + 1) 37 S ∧ Below w.heap.size w wx ∧ wx.ownsRow D 3 1 (.slice ao L.length cap) L.length (L.map fun i : Nat => Value.int .i64 (i : Int)))
        (fun i _ => L.length - (intOf i).toNat)
      case atStart => exact ⟨0, by omega, rfl, h3', h2', h1', hbb, hown⟩
      case round =>
        obtain ⟨k, hk, rfl, hx3, hx2, hx1, hxb, hxo⟩ := hrel
        by_cases hlk : k < L.length
        · obtain ⟨p, off, hao, hc⟩ := (Ints.of_nats hxo).at (k := k) (by simpa using hlk)
          cases hao
          rw [List.getElem_map] at hc
          have hbl := HL.out k hlk
          have hbi : (L[k] : Int) < 64 := by omega
          have HQ := Lib.hid (funext (viaL_take S L k hlk))
          generalize L[k] = b at *
          have hcb := hx1.cell hbl
          have hca := hx3.cell hlt
          rw [thTo_at] at hca
          have hf := hx3.free a
          have HO := u64_or (viaL S (L.take k)) (S b)
          have HN := Lib.hid (hx3.store a _ (fun j => viaL S (L.take k) j || S b j) rfl)
          have H2 := Lib.hid (fun v => hx2.other (k := ⟨w.heap.size + 3, a, none⟩) (by simp) v)
          have H1 := Lib.hid (fun v => hx1.other (k := ⟨w.heap.size + 3, a, none⟩) (by simp) v)
          have HB := Lib.hid (fun v => hxb.setCell (p := ⟨w.heap.size + 3, a, none⟩) (by simp) v)
          have HI := Lib.hid (fun v => ownsRow_setCell_below hxo (a := ⟨w.heap.size + 3, a, none⟩) hD v)
          have HStep := Lib.hid (thTo_step R S a (viaL S (L.take k)) (fun j => viaL S (L.take k) j || S b j))
          clear hx3 hx2 hx1 hxb hxo
          generalize mkS (fun j => viaL S (L.take k) j || S b j) = z at *
          generalize mkS (viaL S (L.take k)) = x1 at *
          generalize mkS (S b) = y1 at *
          change World.cell? _ ⟨p, off + k, none⟩ = some (.int .i64 (b : Int)) at hc
          go_wp2
          go_still_tail 8, (by kernel_rfl)
          go_wp2
          go_roundw
          case rel =>
            refine ⟨k + 1, by omega, by go_num, ?_, H2.out _, H1.out _, (HB.out _).drew, HI.out _⟩
            have h := HN.out
            rw [HStep.out, ← HQ.out] at h
            exact h
          case measure => simp [intOf]; omega
        · have hkL : k = L.length := by omega
          subst hkL
          have HX : Hid (RelAt _ (w.heap.size + 3) 37 (thTo R S (a + 1) fun _ => false)) := Lib.hid (by
            rw [List.take_length] at hx3
            unfold RelAt at *
            rw [← HNX.out]; exact hx3)
          clear hx3 hxo
          go_wp2
          go_roundw
          case rel => exact ⟨a + 1, by omega, by go_num, HX.out, hx2, hx1, hxb⟩
          case measure => simp [intOf]; omega
    · have ha64 : a = 64 := by omega
      subst ha64
      go_wp2_with (first
        | (with_reducible refine wpList_load_rel h3 rfl _ rfl rfl ?_)
        | (with_reducible refine wpList_store_rel h2 (thTo R S 64 fun _ => false) rfl _ _ rfl rfl rfl ?_))
      exact bodyPost_ret (results_rel rfl _ _ _ _ rfl (h2.setRow' (thTo_end R S))) rfl ⟨rfl, below_setRow hb (by omega) _⟩
end Go.Proofs.YtfancjmhdbaoeaaGreatDoor

namespace Go.Proofs.YtfancjmhdbaoeaaGreatDoor
set_option maxRecDepth 100000
open Go.RowKit

abbrev Pr := Int × Int
def prV (l : List Pr) : List Value := l.flatMap fun p => [.int .i64 p.1, .int .i64 p.2]
theorem prV_len (l : List Pr) : (prV l).length = l.length * 2 := by
  induction l with
  | nil => rfl
  | cons a l ih => unfold prV at *; rw [List.flatMap_cons, List.length_append, ih, List.length_cons]; simp; omega
theorem prV_at : ∀ (l : List Pr) (k : Nat) (hk : k < l.length), (prV l)[2 * k]? = some (.int .i64 l[k].1) ∧ (prV l)[2 * k + 1]? = some (.int .i64 l[k].2)
  | [], k, hk => by simp at hk
  | a :: l, 0, _ => by unfold prV; simp
  | a :: l, k + 1, hk => by
    have := prV_at l k (by simpa using hk)
    unfold prV at *
    rw [List.flatMap_cons, show 2 * (k + 1) = 2 * k + 2 by omega]
    simpa using this
theorem prV_append (l m : List Pr) : prV (l ++ m) = prV l ++ prV m := by unfold prV; rw [List.flatMap_append]
/-- The slice v holds these pairs. -/
def Prs (w : World) (v : Value) (l : List Pr) : Prop := Row w v l.length 2 (prV l)
theorem Prs.below {w w' : World} {v : Value} {l : List Pr} (h : Prs w v l) (hb : Below w.heap.size w w') : Prs w' v l := Row.below h hb
theorem Prs.of_owns {w : World} {base : Nat} {e : TypeId} {v : Value} {n : Nat} {l : List Pr} (h : w.ownsRow base e 2 v n (prV l)) : Prs w v l := by
  have hr := Row.of_owns h
  have hn : n = l.length := by have := h.1; rw [prV_len] at this; omega
  subst hn; exact hr
theorem Prs.form {w : World} {v : Value} {l : List Pr} (h : Prs w v l) : ∃ ao cap, v = .slice ao l.length cap ∧ l.length ≤ 9223372036854775807 := by
  obtain ⟨_, ao, cap, rfl, hm, _, _⟩ := h
  exact ⟨ao, cap, rfl, Nat.le_trans hm.1 hm.2⟩
theorem Prs.at {w : World} {ao : Option Addr} {n cap : Nat} {l : List Pr} (h : Prs w (.slice ao n cap) l) {k : Nat} (hk : k < l.length) :
    ∃ b off, ao = some ⟨b, off, none⟩ ∧ w.cell? ⟨b, off + k * 2, none⟩ = some (.int .i64 l[k].1) ∧ w.cell? ⟨b, off + k * 2 + 1, none⟩ = some (.int .i64 l[k].2) := by
  obtain ⟨_, ao', cap', he, hm, _, hc⟩ := h
  obtain ⟨rfl, _, _⟩ : ao = ao' ∧ n = l.length ∧ cap = cap' := by simpa using he
  obtain ⟨b, off, rfl, hcell⟩ := hc (by omega)
  obtain ⟨h1, h2⟩ := prV_at l k hk
  refine ⟨b, off, rfl, ?_, ?_⟩
  · rw [Nat.mul_comm k 2, hcell (2 * k) (by omega), h1]
  · rw [Nat.mul_comm k 2, Nat.add_assoc, hcell (2 * k + 1) (by omega), h2]

def hasP (l : List Pr) (a b : Int) : Bool := l.any fun p => p.1 == a && p.2 == b
theorem hasP_iff {l : List Pr} {a b : Int} : hasP l a b = true ↔ (a, b) ∈ l := by
  unfold hasP
  rw [List.any_eq_true]
  constructor
  · rintro ⟨⟨x, y⟩, h, e⟩
    simp at e
    obtain ⟨rfl, rfl⟩ := e
    exact h
  · intro h; exact ⟨(a, b), h, by simp⟩
theorem hasP_succ (l : List Pr) (a b : Int) (k : Nat) (hk : k < l.length) : hasP (l.take (k + 1)) a b = (hasP (l.take k) a b || (l[k].1 == a && l[k].2 == b)) := by
  unfold hasP
  rw [List.take_succ_eq_append_getElem hk, List.any_append]; simp
theorem hasP_hit (l : List Pr) (a b : Int) (k : Nat) (hk : k < l.length) (h1 : l[k].1 = a) (h2 : l[k].2 = b) : true = hasP l a b := by
  symm
  rw [hasP_iff]
  have : l[k] = (a, b) := Prod.ext h1 h2
  rw [← this]; exact List.getElem_mem hk
def putP (l : List Pr) (a b : Int) : List Pr := if hasP l a b then l else l ++ [(a, b)]
theorem mem_putP {l : List Pr} {a b : Int} {p : Pr} : p ∈ putP l a b ↔ p ∈ l ∨ p = (a, b) := by
  unfold putP
  split
  · rename_i h
    rw [hasP_iff] at h
    exact ⟨.inl, fun h' => h'.elim id (fun e => e ▸ h)⟩
  · simp
theorem putP_nodup {l : List Pr} {a b : Int} (h : l.Nodup) : (putP l a b).Nodup := by
  unfold putP
  split
  · exact h
  · rename_i hn
    rw [List.nodup_append]
    refine ⟨h, by simp, ?_⟩
    intro x hx y hy
    simp at hy
    subst hy
    rintro rfl
    exact hn (hasP_iff.2 hx)
/-- Pairs put in, one by one. -/
def putAll (o l : List Pr) : List Pr := l.foldl (fun o p => putP o p.1 p.2) o
theorem mem_putAll {p : Pr} : ∀ (l o : List Pr), p ∈ putAll o l ↔ p ∈ o ∨ p ∈ l
  | [], o => by simp [putAll]
  | q :: l, o => by
    have := mem_putAll (p := p) l (putP o q.1 q.2)
    unfold putAll at *
    rw [List.foldl_cons, this, mem_putP, List.mem_cons, or_assoc]
theorem putAll_nodup : ∀ (l : List Pr) {o : List Pr}, o.Nodup → (putAll o l).Nodup
  | [], _, h => h
  | _ :: l, _, h => putAll_nodup l (putP_nodup h)
/-- One pair, and then any of some, put in. -/
def thenOne (o : List Pr) (p : Pr) (m : List Pr) : List Pr := m.foldl (fun o q => if p.2 == q.1 then putP o p.1 q.2 else o) o
def thenP (l m : List Pr) : List Pr := l.foldl (fun o p => thenOne o p m) []
theorem mem_thenOne {x : Pr} {p : Pr} : ∀ (m o : List Pr), x ∈ thenOne o p m ↔ x ∈ o ∨ ∃ q ∈ m, p.2 = q.1 ∧ x = (p.1, q.2)
  | [], o => by simp [thenOne]
  | q :: m, o => by
    have h := mem_thenOne (x := x) (p := p) m (if p.2 == q.1 then putP o p.1 q.2 else o)
    have e : thenOne o p (q :: m) = thenOne (if p.2 == q.1 then putP o p.1 q.2 else o) p m := rfl
    rw [e, h]
    by_cases hpq : p.2 = q.1
    · have : (p.2 == q.1) = true := by simpa using hpq
      rw [if_pos this, mem_putP, or_assoc]
      apply or_congr Iff.rfl
      constructor
      · rintro (rfl | ⟨r, hr, h1, h2⟩)
        · exact ⟨q, List.mem_cons_self, hpq, rfl⟩
        · exact ⟨r, List.mem_cons_of_mem _ hr, h1, h2⟩
      · rintro ⟨r, hr, h1, h2⟩
        rcases List.mem_cons.1 hr with rfl | hr
        · exact .inl h2
        · exact .inr ⟨r, hr, h1, h2⟩
    · have : ¬ (p.2 == q.1) = true := by simpa using hpq
      rw [if_neg this]
      apply or_congr Iff.rfl
      constructor
      · rintro ⟨r, hr, h1, h2⟩; exact ⟨r, List.mem_cons_of_mem _ hr, h1, h2⟩
      · rintro ⟨r, hr, h1, h2⟩
        rcases List.mem_cons.1 hr with rfl | hr
        · exact absurd h1 hpq
        · exact ⟨r, hr, h1, h2⟩
theorem mem_thenAll {x : Pr} {m : List Pr} : ∀ (l o : List Pr), x ∈ l.foldl (fun o p => thenOne o p m) o ↔ x ∈ o ∨ ∃ p ∈ l, ∃ q ∈ m, p.2 = q.1 ∧ x = (p.1, q.2)
  | [], o => by simp
  | p :: l, o => by
    rw [List.foldl_cons, mem_thenAll l, mem_thenOne, or_assoc]
    apply or_congr Iff.rfl
    constructor
    · rintro (⟨q, hq, h⟩ | ⟨r, hr, q, hq, h⟩)
      · exact ⟨p, List.mem_cons_self, q, hq, h⟩
      · exact ⟨r, List.mem_cons_of_mem _ hr, q, hq, h⟩
    · rintro ⟨r, hr, q, hq, h⟩
      rcases List.mem_cons.1 hr with rfl | hr
      · exact .inl ⟨q, hq, h⟩
      · exact .inr ⟨r, hr, q, hq, h⟩
theorem mem_thenP {x : Pr} {l m : List Pr} : x ∈ thenP l m ↔ ∃ p ∈ l, ∃ q ∈ m, p.2 = q.1 ∧ x = (p.1, q.2) := by
  unfold thenP; rw [mem_thenAll]; simp
/-- A list without repeats that lies in another one is no longer. -/
theorem nodup_le {α : Type} [BEq α] [LawfulBEq α] : ∀ (l m : List α), l.Nodup → (∀ x ∈ l, x ∈ m) → l.length ≤ m.length
  | [], _, _, _ => by simp
  | a :: l, m, hn, hs => by
    rw [List.nodup_cons] at hn
    have ha := hs a List.mem_cons_self
    have := nodup_le l (m.erase a) hn.2 (fun x hx => by
      have hxa : x ≠ a := by rintro rfl; exact hn.1 hx
      exact (List.mem_erase_of_ne hxa).2 (hs x (List.mem_cons_of_mem _ hx)))
    rw [List.length_erase_of_mem ha] at this
    have hpos : 0 < m.length := List.length_pos_of_mem ha
    rw [List.length_cons]; omega
/-- One comes from a to b, by the pairs of a list, in one step or more. -/
inductive PathP (l : List Pr) : Int → Int → Prop
  | one {a b : Int} : (a, b) ∈ l → PathP l a b
  | more {a b c : Int} : PathP l a b → (b, c) ∈ l → PathP l a c
theorem PathP.ends {l : List Pr} {a b : Int} (h : PathP l a b) : (∃ y, (a, y) ∈ l) ∧ ∃ x, (x, b) ∈ l := by
  induction h with
  | one h => exact ⟨⟨_, h⟩, ⟨_, h⟩⟩
  | more _ h ih => exact ⟨ih.1, ⟨_, h⟩⟩
/-- One more round of the reference's closing. -/
def cloNext (o l : List Pr) : List Pr := putAll o (thenP o l)
/-- What holds of the reference's list from its first round on. -/
structure CloInv (l o : List Pr) : Prop where
  nodup : o.Nodup
  has : ∀ p ∈ l, p ∈ o
  path : ∀ a b, (a, b) ∈ o → PathP l a b
theorem CloInv.next {l o : List Pr} (h : CloInv l o) : CloInv l (cloNext o l) where
  nodup := putAll_nodup _ h.nodup
  has := fun p hp => (mem_putAll _ _).2 (.inl (h.has p hp))
  path := fun a b hab => by
    rcases (mem_putAll _ _).1 hab with h' | h'
    · exact h.path a b h'
    · obtain ⟨⟨x, y⟩, hp, ⟨u, v⟩, hq, h1, h2⟩ := mem_thenP.1 h'
      simp at h1 h2
      obtain ⟨rfl, rfl⟩ := h2
      subst h1
      exact .more (h.path _ _ hp) hq
theorem CloInv.len {l o : List Pr} (h : CloInv l o) : o.length ≤ l.length * l.length := by
  have := nodup_le o (l.flatMap fun p => l.map fun q => (p.1, q.2)) h.nodup (fun x hx => by
    obtain ⟨⟨y, hy⟩, ⟨z, hz⟩⟩ := (h.path x.1 x.2 hx).ends
    exact List.mem_flatMap.2 ⟨_, hy, List.mem_map.2 ⟨_, hz, rfl⟩⟩)
  have e : (l.flatMap fun p => l.map fun q => (p.1, q.2)).length = l.length * l.length := by
    rw [List.length_flatMap]
    have : (l.map fun p => (l.map fun q => ((p.1, q.2) : Pr)).length) = l.map fun _ => l.length := by simp
    rw [this, List.map_const']
    have hr : ∀ n k : Nat, (List.replicate n k).sum = n * k := by
      intro n k; induction n with
      | zero => simp
      | succ n ih => rw [List.replicate_succ, List.sum_cons, ih, Nat.succ_mul]; omega
    exact hr _ _
  rw [e] at this; exact this
theorem CloInv.done {l o : List Pr} (h : CloInv l o) (hd : (cloNext o l).length = o.length) (a b : Int) : (a, b) ∈ o ↔ PathP l a b := by
  constructor
  · exact h.path a b
  · intro hp
    have hsub : ∀ x ∈ cloNext o l, x ∈ o := by
      intro x hx
      by_cases hxo : x ∈ o
      · exact hxo
      · have h2 := nodup_le (x :: o) (cloNext o l) (List.nodup_cons.2 ⟨hxo, h.nodup⟩) (fun y hy => by
          rcases List.mem_cons.1 hy with rfl | hy
          · exact hx
          · exact (mem_putAll _ _).2 (.inl hy))
        rw [List.length_cons] at h2; omega
    induction hp with
    | one h' => exact h.has _ h'
    | more _ h' ih => exact hsub _ ((mem_putAll _ _).2 (.inr (mem_thenP.2 ⟨_, ih, _, h', rfl, rfl⟩)))
end Go.Proofs.YtfancjmhdbaoeaaGreatDoor

namespace Go.Proofs.YtfancjmhdbaoeaaGreatDoor
set_option maxRecDepth 100000
open Go.RowKit

def IdxRes (l : List Int) (n : Int) (e : Ending) : Prop := (∃ (k : Nat) (hk : k < l.length), l[k] = n ∧ e = .returned (.int .i64 (k : Int))) ∨ (n ∉ l ∧ e = .returned (.int .i64 (-1)))
set_option maxHeartbeats 1000000 in
theorem index_any (v : Value) (l : List Int) (n : Int) (w : World) (hv : Ints w v l) :
    Calls Tryz.prog 168 #[v, .int .i64 n] w fun e w' => IdxRes l n e ∧ w = w' := by
  obtain ⟨ao, cap, rfl, hlen⟩ := hv.form
  go_enter Tryz.func168, Tryz.ntmps168
  go_wp2
  go_loop [8] (fun i => ∃ k : Nat, k ≤ l.length ∧ i = .int .i64 k ∧ Hid (n ∉ l.take k)) (fun i => l.length - (intOf i).toNat)
  case atStart => exact ⟨0, Nat.zero_le _, rfl, Lib.hid (by simp)⟩
  case round =>
    obtain ⟨k, hk, rfl, hno⟩ := hrel
    by_cases hlt : k < l.length
    · obtain ⟨b, off, rfl, hc⟩ := hv.at hlt
      have HS : Hid (n ≠ l[k] → n ∉ l.take (k + 1)) := Lib.hid (fun h => by rw [List.take_succ_eq_append_getElem hlt, List.mem_append, List.mem_singleton]; exact fun h' => h'.elim hno.out h)
      have HE : Hid (∀ z, z = l[k] → n = z → ∃ (k' : Nat) (hk' : k' < l.length), l[k'] = n ∧ Ending.returned (Value.int .i64 (k : Int)) = .returned (.int .i64 (k' : Int))) := Lib.hid (fun z hz hn => ⟨k, hlt, by rw [← hz, hn], rfl⟩)
      obtain ⟨z, hz⟩ : ∃ z, z = l[k] := ⟨_, rfl⟩
      rw [← hz] at hc HS
      have HZ := Lib.hid hz
      clear hz
      by_cases hzn : n = z
      · have hz' : (n == z) = true := by simpa using hzn
        have HZN := Lib.hid hzn
        clear hzn
        go_wp2
        go_ret
        exact ⟨.inl (HE.out z HZ.out HZN.out), rfl⟩
      · have hz' : (n == z) = false := by simpa using hzn
        go_wp2
        go_round
        case rel => exact ⟨k + 1, by omega, by go_num, Lib.hid (HS.out hzn)⟩
        case measure => simp [intOf]; omega
    · have HX : Hid (n ∉ l) := Lib.hid (by have := hno.out; rwa [List.take_of_length_le (by omega)] at this)
      go_wp2
      go_ret
      exact ⟨.inr ⟨HX.out, rfl⟩, rfl⟩

/-- Does nothing of a set follow on a number? -/
def emp (R : Mat) (s i : Nat) : Bool := (mkS (R i) &&& s) == 0
theorem emp_no {R : Mat} {s i : Nat} (hs : IsSet s) (h : emp R s i = false) : ∃ j, j ∈ lst s ∧ R i j = true := by
  unfold emp at h
  rw [beq_eq_false_iff_ne] at h
  have hset : IsSet (mkS (R i) &&& s) := isSet_and (isSet_mkS _)
  have hne : lst (mkS (R i) &&& s) ≠ [] := fun e => h (lst_nil hset e)
  have hm := mem_lst.1 (fst_mem hne)
  rw [Nat.testBit_and, testBit_mkS, Bool.and_eq_true, Bool.and_eq_true] at hm
  exact ⟨_, (mem_lst' hs).2 hm.2.2, hm.2.1.2⟩
theorem emp_yes {R : Mat} {s i j : Nat} (hj : j ∈ lst s) (h : R i j = true) : emp R s i = false := by
  unfold emp
  rw [beq_eq_false_iff_ne]
  intro e
  have hj' := mem_lst.1 hj
  have := congrArg (fun x => Nat.testBit x j) e
  simp [Nat.testBit_and, testBit_mkS, hj'.1, hj'.2, h] at this
/-- A set each of whose numbers stands to one of it. -/
def Suff (R : Mat) (F : Nat → Prop) : Prop := ∀ a, F a → a < 64 ∧ ∃ b, F b ∧ R a b = true
structure EndInv (R : Mat) (s : Nat) : Prop where
  set : IsSet s
  all : ∀ F, Suff R F → ∀ a, F a → a ∈ lst s
/-- One round done for the first k numbers. -/
def NxTo (R : Mat) (s : Nat) (k : Nat) (x : Nat) : Prop := IsSet x ∧ ∀ i, x.testBit i = (s.testBit i && !(((lst s).take k).contains i && emp R s i))
theorem nxTo_end {R : Mat} {s x : Nat} (hs : IsSet s) (h : NxTo R s (lst s).length x) (i : Nat) : x.testBit i = (s.testBit i && !emp R s i) := by
  rw [h.2 i, List.take_length]
  cases hb : s.testBit i
  · simp
  · have : (lst s).contains i = true := by rw [List.contains_iff_mem]; exact (mem_lst' hs).2 hb
    rw [this]; simp
theorem EndInv.next {R : Mat} {s x : Nat} (h : EndInv R s) (hx : NxTo R s (lst s).length x) : EndInv R x where
  set := hx.1
  all := fun F hF a ha => by
    obtain ⟨hlt, b, hb, hab⟩ := hF a ha
    rw [mem_lst' hx.1, nxTo_end h.set hx, (mem_lst' h.set).1 (h.all F hF a ha), emp_yes (h.all F hF b hb) hab]; rfl
theorem EndInv.done {R : Mat} {s : Nat} (h : EndInv R s) (hx : NxTo R s (lst s).length s) : ∀ a ∈ lst s, ∃ b ∈ lst s, R a b = true := by
  intro a ha
  have hb := (mem_lst' h.set).1 ha
  have := nxTo_end h.set hx a
  rw [hb] at this
  simp at this
  exact emp_no h.set this
end Go.Proofs.YtfancjmhdbaoeaaGreatDoor

namespace Go.Proofs.YtfancjmhdbaoeaaGreatDoor
set_option maxRecDepth 100000
open Go.RowKit Go.Shelf

set_option maxHeartbeats 1000000 in
theorem contains_any (v : Value) (l : List Int) (n : Int) (w : World) (hv : Ints w v l) :
    Calls Tryz.prog 161 #[v, .int .i64 n] w fun e w' => e = .returned (.bool (decide (n ∈ l))) ∧ w = w' := by
  have C := Lib.hid (index_any v l n w hv)
  obtain ⟨ao, cap, rfl, hlen⟩ := hv.form
  go_enter Tryz.func161, Tryz.ntmps161
  go_wp2_with fail
  refine C.out.mono ?_
  rintro e w' ⟨⟨k, hk, he, rfl⟩ | ⟨hn, rfl⟩, rfl⟩
  · have HV : Hid (true = decide (n ∈ l)) := Lib.hid (by symm; rw [decide_eq_true_eq, ← he]; exact List.getElem_mem hk)
    clear he C
    have h0 : (0 : Int) ≤ (k : Int) := by omega
    go_wp2_with fail
    go_ret
    exact ⟨ret_b HV.out, rfl⟩
  · have HV : Hid (false = decide (n ∈ l)) := Lib.hid (by symm; rw [decide_eq_false_iff_not]; exact hn)
    clear hn C
    go_wp2_with fail
    go_ret
    exact ⟨ret_b HV.out, rfl⟩
theorem infoIntC : (Tryz.prog.info? 3).map (fun i => (i.zero, i.size, i.bytes)) = some (some (.int .i64 0), 1, 8) := by kernel_rfl
/-- What is appended to a slice without room behind it lies in new memory. -/
theorem run_append_full {w : World} (ty : TypeId) {ao : Option Addr} {l : List Nat} (hr : Ints w (.slice ao l.length l.length) (l.map Int.ofNat)) (ad : Addr) (c k : Nat) (hnew : w.cell? ad = some (.int .i64 (k : Int))) (hl : l.length ≤ 1000) :
    ∃ v' w', Sem.run Tryz.prog (Builtin.append_ #[32, 32] ty #[.slice ao l.length l.length, .slice (some ad) 1 c]) w = .ok v' w' ∧ RowHi w.heap.size w' v' (l ++ [k]) ∧ Below w.heap.size w w' := by
  obtain ⟨i0, hi0, hz0, hz1, hz2⟩ := info_parts infoIntC
  have hnews : ∀ j u, [Value.int .i64 (k : Int)][j]? = some u → w.cell? (ad.add j) = some u := fun j u hu => by
    cases j with
    | zero => simp at hu; subst hu; simpa [Addr.add] using hnew
    | succ j => simp at hu
  have hfin : ∀ v' (w' : World), w'.ownsRow w.heap.size 3 1 v' (l.length + 1) ((l.map fun i : Nat => .int .i64 (i : Int)) ++ [.int .i64 (k : Int)]) → RowHi w.heap.size w' v' (l ++ [k]) := fun v' w' ho => by
    refine ⟨?_, fun g hg => (ho.lt g hg).1⟩
    have h1 := Row.of_owns ho
    unfold Ints
    have e1 : ((l ++ [k]).map Int.ofNat).length = l.length + 1 := by simp
    have e2 : ((l ++ [k]).map Int.ofNat).map (Value.int .i64) = (l.map fun i : Nat => .int .i64 (i : Int)) ++ [.int .i64 (k : Int)] := by simp [Function.comp_def]
    rw [e1, e2]; exact h1
  obtain ⟨hcl, ao', cap', e, hm, hno, hc⟩ := hr
  have hlen : (l.map Int.ofNat).length = l.length := by simp
  rw [hlen] at hm hno hc
  obtain ⟨rfl, _⟩ : ao = ao' ∧ l.length = cap' := by simpa using e
  cases ao with
  | none =>
    have h0 := (hno rfl).1
    have hl0 : l = [] := List.length_eq_zero_iff.1 h0
    subst hl0
    obtain ⟨g, cap, w', hr, h2, h3, h4, h5⟩ := run_append_lies (P := Tryz.prog) w 32 ty w.heap.size 3 i0 (.int .i64 0) 1 8 Tryz.underlying32 hi0 hz0 hz1 hz2 rfl (by decide) (.slice none 0 0) 0 [] (World.ownsRow_nil _ _ _ _) ad 1 c _ rfl hnews (by intro u hu; simp at hu; subst hu; rfl) (by decide) (by unfold maxLen; omega) (by omega) (Nat.le_refl _) _ rfl
    exact ⟨_, w', hr, hfin _ _ h2, (Below.refl _ _).grown h3 (Nat.le_refl _) (fun j hj => by cases hj)⟩
  | some b =>
    have holds : ∀ j u, (l.map fun i : Nat => Value.int .i64 (i : Int))[j]? = some u → w.cell? (b.add j) = some u := fun j u hu => by
      have hj : j < l.length := by
        have := (List.getElem?_eq_some_iff.1 hu).1
        simpa using this
      obtain ⟨g, off, e2, hcell⟩ := hc (by omega)
      obtain rfl : b = ⟨g, off, none⟩ := by injection e2
      rw [Addr.add_lit]
      rw [hcell j (by omega), ← hu, List.map_map]; rfl
    obtain ⟨v', w', hr, h2, h3⟩ := run_append_arg_grows (P := Tryz.prog) w 32 ty 3 i0 (.int .i64 0) 1 8 Tryz.underlying32 hi0 hz0 hz1 hz2 rfl (by decide) b l.length l.length _ (by simp) holds ad 1 c _ rfl hnews (by omega) (by unfold maxLen; omega) (by omega)
    exact ⟨v', w', hr, hfin _ _ h2, (Below.refl _ _).grown h3 (Nat.le_refl _) (fun j hj => by cases hj)⟩
theorem RowHi.below {D : Nat} {W W' : World} {v : Value} {r : List Nat} (h : RowHi D W v r) (hb : Below W.heap.size W W') : RowHi D W' v r := ⟨h.1.below hb, h.2⟩
theorem RowHi.form {D : Nat} {W : World} {v : Value} {r : List Nat} (h : RowHi D W v r) : ∃ ao cap, v = .slice ao r.length cap := by
  obtain ⟨ao, cap, e, _⟩ := h.1.form
  rw [List.length_map] at e
  exact ⟨ao, cap, e⟩
theorem RowHi.full {D : Nat} {W : World} {ao : Option Addr} {n cap : Nat} {r : List Nat} (h : RowHi D W (.slice ao n cap) r) : Ints W (.slice ao r.length r.length) (r.map Int.ofNat) := by
  obtain ⟨⟨_, ao', cap', e, hm, hno, hc⟩, _⟩ := h
  obtain ⟨rfl, _, _⟩ : ao = ao' ∧ n = _ ∧ cap = cap' := by simpa using e
  rw [List.length_map] at hm hno hc
  unfold Ints
  rw [List.length_map]
  exact ⟨by simp, ao, r.length, rfl, ⟨Nat.le_refl _, by omega⟩, fun e => by have := (hno e).1; omega, hc⟩
end Go.Proofs.YtfancjmhdbaoeaaGreatDoor

namespace Go.Proofs.YtfancjmhdbaoeaaGreatDoor
set_option maxRecDepth 100000
open Go.RowKit Go.Shelf
attribute [local go_sem] Oper.semAt_some

/-- What comes of a call that hands over some rows: all have come, or one has said 'no more'. -/
def Handed (D : Nat) (J Jx : List (List Nat) → World → Prop) (pre E : List (List Nat)) (W : World) (e : Ending) (B : World) : Prop :=
  (e = .returned (.bool true) ∧ J (pre ++ E) B ∧ KeepsHi D W B) ∨ (e = .returned (.bool false) ∧ ∃ q, q <+: E ∧ Jx (pre ++ q) B)
/-- The append, for the walk, where it stands behind a test. -/
theorem wpList_append_full (w : World) {ops : Array Oper} {rest : List Oper} {o : Oper} {a : Act} {Q : Exit → Act → World → Prop} (s x : Operand)
    (ho : o.op = .call { callee := .builtin .append, args := #[s, x], argTypes := #[32, 32] }) (hw : Region.wanted o (yielded ops a.tmps) = true) {vs vx v' : Value} {w' : World} (hs : a.eval s = vs) (hx : a.eval x = vx)
    (hrun : Sem.run Tryz.prog (Builtin.append_ #[32, 32] o.type #[vs, vx]) w = .ok v' w') (h : wpList Tryz.prog ops Q rest (a.put o.dst v') w') : wpList Tryz.prog ops Q (o :: rest) a w := by
  refine wpList_step fun K hK => ?_
  rw [if_pos hw]
  unfold Oper.wp execOp
  simp only [ho, resolve, invoke, builtin, Sem.run_bind, Sem.run_pure, Result.andThen_ok, List.map_toArray, List.map_cons, List.map_nil, hs, hx, hrun]
  exact hK _ _ h
theorem mem_ints {r : List Nat} {j : Nat} (h : j ∈ r) : decide ((j : Int) ∈ r.map Int.ofNat) = true := by rw [decide_eq_true_eq]; exact List.mem_map.2 ⟨j, h, rfl⟩
theorem not_mem_ints {r : List Nat} {j : Nat} (h : j ∉ r) : decide ((j : Int) ∈ r.map Int.ofNat) = false := by
  rw [decide_eq_false_iff_not, List.mem_map]
  rintro ⟨x, hx, e⟩
  obtain rfl : x = j := Int.ofNat.inj e
  exact h hx
set_option maxRecDepth 100000 in
set_option maxHeartbeats 4000000 in
theorem further_any (l D many : Nat) (L : List (List Nat)) (J Jx : List (List Nat) → World → Prop) (hJ : Stays D J) (hm : many ≤ 64)
    (hY : ∀ (m : Nat) pre v r A, J pre A → RowHi D A v r → (pre ++ [r]) <+: L → YieldAt Fence.wide m Tryz.prog l #[v] A fun e B =>
      (e = .returned (.bool true) ∧ J (pre ++ [r]) B ∧ KeepsHi D A B) ∨ (e = .returned (.bool false) ∧ Jx (pre ++ [r]) B)) :
    ∀ (k : Nat) (v : Value) (r : List Nat) (pre : List (List Nat)) (W : World), RowHi D W v r → r.length + k = many → (pre ++ exts many k r) <+: L → D ≤ W.heap.size → J pre W →
      Calls Tryz.prog 138 #[.int .i64 (many : Int), v, .func (.yield l) #[] #[]] W fun e B => Handed D J Jx pre (exts many k r) W e B
  | 0, v, r, pre, W, hr, hlen, hL, hD, hj => by
    have hy := hY 1 pre v r W hj hr hL
    obtain ⟨fn, tmps, assign, body, hy, hR⟩ := hy
    obtain ⟨ao, cap, rfl⟩ := hr.form
    obtain rfl : r.length = many := by omega
    clear hlen hm hD hY
    refine (callsIn_wide (n := 2)).1 ?_
    refine callsIn_of_wp Tryz.func138 rfl trivial ?_ rfl
    simp only [Tryz.ntmps138, List.size_toArray, List.length_cons, List.length_nil, Nat.reduceAdd, Nat.reduceSub, Array.replicate_succ, Array.replicate_zero, List.push_toArray, List.append_toArray, List.nil_append, List.cons_append]
    gi_wp2_with (first
      | (refine ⟨fun h => (by cases h), ?_⟩; refine hR.mono ?_; rintro e B (⟨rfl, hj2, hk2⟩ | ⟨rfl, hx2⟩))
      | (refine hR.mono ?_; rintro e B (⟨rfl, hj2, hk2⟩ | ⟨rfl, hx2⟩)))
    · go_ret
      exact .inl ⟨rfl, hj2, hk2⟩
    · go_ret
      exact .inr ⟨rfl, [r], List.prefix_rfl, hx2⟩
  | k + 1, v, r, pre, W, hr, hlen, hL, hD, hj => by
    have IH := Lib.hid (fun v r pre W a b c d e => further_any l D many L J Jx hJ hm hY k v r pre W a b c d e)
    have HR := Lib.hid hr
    have HL := Lib.hid hL
    obtain ⟨ao, cap, rfl⟩ := hr.form
    have hb1 : ((r.length : Int) == (many : Int)) = false := by rw [beq_eq_false_iff_ne]; omega
    have HG := Lib.hid hlen
    have HF := Lib.hid (fun wx (hx : KeepsHi D W wx) => (hr.kept hx).full)
    have hcap : r.length ≤ cap := by
      obtain ⟨⟨_, ao', cap', e, hm', _⟩, _⟩ := hr
      rw [List.length_map] at e hm'
      obtain ⟨_, _, rfl⟩ : ao = ao' ∧ r.length = r.length ∧ cap = cap' := by simpa using e
      exact hm'.1
    clear hlen hL hr hY
    go_enter Tryz.func138, Tryz.ntmps138
    go_wp2_with fail
    go_loopw [16] (fun i wr => ∃ j : Nat, j ≤ many ∧ i = .int .i64 (j : Int) ∧ Hid (J (pre ++ extsTo many k r j) wr) ∧ Hid (KeepsHi D W wr)) (fun i _ => many - (intOf i).toNat)
    case atStart => exact ⟨0, by omega, rfl, Lib.hid (by rw [extsTo_zero, List.append_nil]; exact hj), Lib.hid (KeepsHi.refl _ _)⟩
    case round =>
      clear hj
      obtain ⟨j, hjm, rfl, HJ, HK⟩ := hrel
      by_cases hlt : (j : Int) < (many : Int)
      · have CC := Lib.hid (contains_any (.slice ao r.length cap) (r.map Int.ofNat) (j : Int) wr (HR.out.kept HK.out).1)
        by_cases hin : j ∈ r
        · have HS : Hid (extsTo many k r (j + 1) = extsTo many k r j) := Lib.hid (by rw [extsTo_succ, if_pos hin, List.append_nil])
          rw [mem_ints hin] at CC
          clear hin
          go_wp2_with fail
          refine CC.out.mono ?_
          rintro e wq ⟨rfl, rfl⟩
          go_wp2_with fail
          go_roundw
          case rel => exact ⟨j + 1, by omega, rfl, Lib.hid (by rw [HS.out]; exact HJ.out), HK⟩
          case measure => simp only [intOf]; omega
        · have HS : Hid (extsTo many k r (j + 1) = extsTo many k r j ++ exts many k (r ++ [j])) := Lib.hid (by rw [extsTo_succ, if_neg hin])
          rw [not_mem_ints hin] at CC
          clear hin
          have hDw : D ≤ wr.heap.size := Nat.le_trans hD HK.out.size
          have hcell : (wr.alloc (.cells #[.int .i64 (j : Int)] 3)).cell? ⟨wr.heap.size, 0, none⟩ = some (.int .i64 (j : Int)) := by
            rw [cell_of_row _ _ _ _ _ _ (heap_alloc_new wr _)]; rfl
          have hbw : Below wr.heap.size wr (wr.alloc (.cells #[.int .i64 (j : Int)] 3)) := (Below.refl _ _).alloc (Nat.le_refl _) _
          obtain ⟨v2, w2, hap, hr2, hb2⟩ := run_append_full 32 (w := wr.alloc (.cells #[.int .i64 (j : Int)] 3)) (ao := ao) (l := r) ((HF.out wr HK.out).below hbw) ⟨wr.heap.size, 0, none⟩ 1 j hcell (by have := HG.out; omega)
          have hb3 : Below wr.heap.size wr w2 := hbw.trans (hb2.mono hbw.size)
          have HI := Lib.hid (IH.out v2 (r ++ [j]) (pre ++ extsTo many k r j) w2 ⟨hr2.1, fun g hg => Nat.le_trans hDw (Nat.le_trans hbw.size (hr2.2 g hg))⟩ (by have := HG.out; simp; omega)
            (by have h1 := HL.out; rw [List.append_assoc, ← HS.out]; exact ((List.prefix_append_right_inj pre).2 (by rw [exts_all]; exact extsTo_prefix many k r (by omega))).trans h1) (Nat.le_trans hDw hb3.size) (hJ _ _ _ HJ.out (hb3.mono hDw)))
          have HK2 : Hid (KeepsHi D W w2) := Lib.hid (HK.out.trans (KeepsHi.of_below hb3))
          have HP : Hid (∀ q, q <+: exts many k (r ++ [j]) → extsTo many k r j ++ q <+: exts many (k + 1) r) := Lib.hid (fun q hq => ((List.prefix_append_right_inj _).2 hq).trans (by rw [← HS.out, exts_all]; exact extsTo_prefix many k r (by omega)))
          obtain ⟨ao2, cap2, rfl⟩ := hr2.form
          rw [List.length_append, List.length_singleton] at HI hap
          have HA := Lib.hid hap
          clear hcell hbw hr2 hb2 hb3 IH hap
          cases ao with
          | none =>
            go_wp2_with fail
            refine CC.out.mono ?_
            rintro e wq ⟨rfl, rfl⟩
            go_wp2_with (first
              | (at_builtin; refine wpList_append_full _ _ _ rfl (by kernel_rfl) rfl rfl HA.out ?_)
              | (go_at_call 138; refine HI.out.mono ?_; rintro e B (⟨rfl, hj2, hk2⟩ | ⟨rfl, q, hq, hx2⟩)))
            · go_roundw
              case rel => exact ⟨j + 1, by omega, rfl, Lib.hid (by rw [HS.out, ← List.append_assoc]; exact hj2), Lib.hid (HK2.out.trans hk2)⟩
              case measure => simp only [intOf]; omega
            · go_ret
              exact .inr ⟨rfl, _, HP.out q hq, by rw [← List.append_assoc]; exact hx2⟩
          | some ad =>
            go_wp2_with fail
            refine CC.out.mono ?_
            rintro e wq ⟨rfl, rfl⟩
            go_wp2_with (first
              | (at_builtin; refine wpList_append_full _ _ _ rfl (by kernel_rfl) rfl rfl HA.out ?_)
              | (go_at_call 138; refine HI.out.mono ?_; rintro e B (⟨rfl, hj2, hk2⟩ | ⟨rfl, q, hq, hx2⟩)))
            · go_roundw
              case rel => exact ⟨j + 1, by omega, rfl, Lib.hid (by rw [HS.out, ← List.append_assoc]; exact hj2), Lib.hid (HK2.out.trans hk2)⟩
              case measure => simp only [intOf]; omega
            · go_ret
              exact .inr ⟨rfl, _, HP.out q hq, by rw [← List.append_assoc]; exact hx2⟩
      · have HV : Hid (exts many (k + 1) r = extsTo many k r j) := Lib.hid (by rw [exts_all, show j = many by omega])
        go_wp2_with fail
        go_ret
        exact .inl ⟨rfl, by rw [HV.out]; exact HJ.out, HK.out⟩
end Go.Proofs.YtfancjmhdbaoeaaGreatDoor

namespace Go.Proofs.YtfancjmhdbaoeaaGreatDoor
set_option maxRecDepth 100000

/-- What must be seen: what there is at the start, and what follows. -/
inductive Must (S A : Mat) (tr pf : Bool) : Nat → Nat → Prop
  | base {i j : Nat} : S i j = true → Must S A tr pf i j
  | trans {i m j : Nat} : tr = true → m < 64 → Must S A tr pf i m → Must S A tr pf m j → Must S A tr pf i j
  | pre {i m j : Nat} : pf = true → m < 64 → A i m = true → Must S A tr pf m j → Must S A tr pf i j
def moreT (V : Mat) (tr : Bool) : Mat := if tr then clo V else V
def moreM (V A : Mat) (tr pf : Bool) : Mat := if pf then orR (moreT V tr) (thenR A (moreT V tr)) else moreT V tr
section
variable {S A V : Mat} {tr pf : Bool}
theorem path_must (ht : tr = true) (hV : ∀ i j, i < 64 → j < 64 → V i j = true → Must S A tr pf i j) {i j : Nat} (h : Path V i j) (hi : i < 64) (hj : j < 64) : Must S A tr pf i j := by
  induction h with
  | one h => exact hV _ _ hi hj h
  | more h h2 _ ih => exact .trans ht h2 (hV _ _ hi h2 h) (ih h2 hj)
theorem moreT_sound (hV : ∀ i j, i < 64 → j < 64 → V i j = true → Must S A tr pf i j) (i j : Nat) (hi : i < 64) (hj : j < 64) (h : moreT V tr i j = true) : Must S A tr pf i j := by
  cases tr with
  | false => exact hV i j hi hj h
  | true => exact path_must rfl hV ((clo_iff V i j).1 h) hi hj
theorem thenR_iff (R S : Mat) (i j : Nat) : thenR R S i j = true ↔ ∃ m, m < 64 ∧ R i m = true ∧ S m j = true := by
  unfold thenR
  rw [List.any_eq_true]
  constructor
  · rintro ⟨m, hm, h⟩
    rw [Bool.and_eq_true] at h
    exact ⟨m, List.mem_range.1 hm, h.1, h.2⟩
  · rintro ⟨m, hm, h1, h2⟩
    exact ⟨m, List.mem_range.2 hm, by rw [h1, h2]; rfl⟩
theorem orR_iff (R S : Mat) (i j : Nat) : orR R S i j = true ↔ R i j = true ∨ S i j = true := by
  unfold orR; rw [Bool.or_eq_true]
theorem moreM_sound (hV : ∀ i j, i < 64 → j < 64 → V i j = true → Must S A tr pf i j) (i j : Nat) (hi : i < 64) (hj : j < 64) (h : moreM V A tr pf i j = true) : Must S A tr pf i j := by
  cases pf with
  | false => exact moreT_sound hV i j hi hj h
  | true =>
    rcases (orR_iff _ _ _ _).1 h with h | h
    · exact moreT_sound hV i j hi hj h
    · obtain ⟨m, hm, h1, h2⟩ := (thenR_iff _ _ _ _).1 h
      exact .pre rfl hm h1 (moreT_sound hV m j hm hj h2)
theorem moreT_grows {i j : Nat} (h : V i j = true) : moreT V tr i j = true := by
  cases tr with
  | false => exact h
  | true => exact cloTo_sub V i j h 64
theorem moreM_grows {i j : Nat} (h : V i j = true) : moreM V A tr pf i j = true := by
  cases pf with
  | false => exact moreT_grows h
  | true => exact (orR_iff _ _ _ _).2 (.inl (moreT_grows h))
theorem more_done (hS : ∀ i j, i < 64 → j < 64 → S i j = true → V i j = true) (hf : rowsA (moreM V A tr pf) = rowsA V) {i j : Nat} (h : Must S A tr pf i j) (hi : i < 64) (hj : j < 64) : V i j = true := by
  induction h with
  | base h => exact hS _ _ hi hj h
  | @trans i m j ht hm _ _ ih1 ih2 =>
    rw [← rowsA_inj hf i j hi hj]
    have hp : moreT V tr i j = true := by
      rw [ht]
      exact (clo_iff V i j).2 ((Path.one (ih1 hi hm)).trans hm (.one (ih2 hm hj)))
    cases pf with
    | false => exact hp
    | true => exact (orR_iff _ _ _ _).2 (.inl hp)
  | @pre i m j hp hm ha _ ih =>
    rw [← rowsA_inj hf i j hi hj]
    rw [hp]
    exact (orR_iff _ _ _ _).2 (.inr ((thenR_iff _ _ _ _).2 ⟨m, hm, ha, moreT_grows (ih hm hj)⟩))
end
theorem filter_le {α : Type} {p q : α → Bool} : ∀ (l : List α), (∀ a ∈ l, p a = true → q a = true) → (l.filter p).length ≤ (l.filter q).length
  | [], _ => by simp
  | a :: l, h => by
    have ih := filter_le l (fun b hb => h b (List.mem_cons_of_mem _ hb))
    have ha := h a List.mem_cons_self
    cases hp : p a with
    | true => rw [List.filter_cons_of_pos hp, List.filter_cons_of_pos (ha hp)]; simpa using ih
    | false =>
      rw [List.filter_cons_of_neg (by simp [hp])]
      cases hq : q a with
      | true => rw [List.filter_cons_of_pos hq]; simp; omega
      | false => rw [List.filter_cons_of_neg (by simp [hq])]; exact ih
theorem filter_lt {α : Type} {p q : α → Bool} : ∀ (l : List α), (∀ a ∈ l, p a = true → q a = true) → ∀ x ∈ l, q x = true → p x = false → (l.filter p).length < (l.filter q).length
  | [], _, _, hx, _, _ => by cases hx
  | a :: l, h, x, hx, hq, hp => by
    have h2 := fun b hb => h b (List.mem_cons_of_mem a hb)
    rcases List.mem_cons.1 hx with rfl | hx
    · rw [List.filter_cons_of_neg (by simp [hp]), List.filter_cons_of_pos hq]
      have := filter_le l h2
      simp; omega
    · have ih := filter_lt l h2 x hx hq hp
      have ha := h a List.mem_cons_self
      cases hp1 : p a with
      | true => rw [List.filter_cons_of_pos hp1, List.filter_cons_of_pos (ha hp1)]; simpa using ih
      | false =>
        rw [List.filter_cons_of_neg (by simp [hp1])]
        cases hq1 : q a with
        | true => rw [List.filter_cons_of_pos hq1]; simp; omega
        | false => rw [List.filter_cons_of_neg (by simp [hq1])]; exact ih
/-- How many pairs there are. -/
def cntP (R : Mat) : Nat := ((List.range 4096).filter fun n => R (n / 64) (n % 64)).length
theorem cntP_le (R : Mat) : cntP R ≤ 4096 := by
  unfold cntP
  have := List.length_filter_le (fun n => R (n / 64) (n % 64)) (List.range 4096)
  simpa using this
theorem cntP_lt {R S : Mat} (h : ∀ i j, R i j = true → S i j = true) (hne : rowsA R ≠ rowsA S) : cntP R < cntP S := by
  by_cases hx : ∃ i j, i < 64 ∧ j < 64 ∧ S i j = true ∧ R i j = false
  · obtain ⟨i, j, hi, hj, h1, h2⟩ := hx
    have e1 : (i * 64 + j) / 64 = i := by omega
    have e2 : (i * 64 + j) % 64 = j := by omega
    exact filter_lt _ (fun n _ hn => h _ _ hn) (i * 64 + j) (List.mem_range.2 (by omega)) (by rw [e1, e2]; exact h1) (by rw [e1, e2]; exact h2)
  · refine absurd (rowsA_congr fun i j hi hj => ?_) hne
    cases hr : R i j with
    | true => exact (h i j hr).symm
    | false =>
      cases hs : S i j with
      | true => exact absurd ⟨i, j, hi, hj, hs, hr⟩ hx
      | false => rfl
end Go.Proofs.YtfancjmhdbaoeaaGreatDoor

namespace Go.Proofs.YtfancjmhdbaoeaaGreatDoor
set_option maxRecDepth 100000
open Go.RowKit

/-- The number is an int. -/
abbrev InI (x : Int) : Prop := (Lit.int .i64 x).wf = true
open Classical in
/-- An element's reader: the element itself, where it is of the right shape. -/
noncomputable def rdE {α : Type} (e : α → Value) (v : Value) : Option (DataW Value × List MemPlace) := if ∃ a, v = e a then some (.held v, []) else none
theorem rdE_mk {α : Type} (e : α → Value) (a : α) : rdE e (e a) = some (.held (e a), []) := by
  unfold rdE; rw [if_pos ⟨a, rfl⟩]
theorem rdE_inv {α : Type} {e : α → Value} {v : Value} {y : DataW Value × List MemPlace} (h : rdE e v = some y) : ∃ a, v = e a ∧ y = (.held (e a), []) := by
  unfold rdE at h
  split at h
  · rename_i hv
    obtain ⟨a, rfl⟩ := hv
    exact ⟨a, rfl, (Option.some.inj h).symm⟩
  · cases h
/-- What a map as read says at each int. -/
def Tells {α : Type} (e : α → Value) (D : DataW Value) (f : Int → Option α) : Prop :=
  ∀ x, InI x → Maps.has D (.int .i64 x) = (f x).isSome ∧ ∀ a, f x = some a → ∀ z, D.atKey (.int .i64 x) z = .held (e a)
/-- Block b is a map of c entries, which has at each int x what f says. -/
def MapI {α : Type} (e : α → Value) (P : Program) (k : TypeId) (w : World) (b n : Nat) (f : Int → Option α) (c : Nat) : Prop :=
  ∃ D, w.ownsMap P k (rdE e) b n D ∧ Maps.size D = c ∧ Tells e D f
theorem MapI.made {α : Type} (e : α → Value) (P : Program) (k : TypeId) (w : World) : MapI e P k (w.alloc (.map #[] 0)) w.heap.size 0 (fun _ => none) 0 :=
  ⟨_, World.ownsMap_made w P k (rdE e), rfl, fun _ _ => ⟨rfl, fun _ h => by cases h⟩⟩
section
variable {α : Type} {e : α → Value} {P : Program} {k : TypeId} {w : World} {b n : Nat} {f : Int → Option α} {c : Nat}
theorem MapI.lt (h : MapI e P k w b n f c) : b < w.heap.size := by obtain ⟨D, h, _⟩ := h; exact h.lt
theorem MapI.mono (h : MapI e P k w b n f c) {n' : Nat} (hn : n ≤ n') : MapI e P k w b n' f c := by
  obtain ⟨D, h, r⟩ := h; exact ⟨D, h.mono hn, r⟩
theorem MapI.kept {w' : World} {row : Option Nat} (h : MapI e P k w b n f c) (hg : w.grownBy w' row) (hne : some b ≠ row) : MapI e P k w' b n f c := by
  obtain ⟨D, h, r⟩ := h; exact ⟨D, h.kept hg hne, r⟩
theorem MapI.below {w' : World} (h : MapI e P k w b n f c) (hb : Below w.heap.size w w') : MapI e P k w' b n f c :=
  h.kept (row := none) ⟨hb.os, hb.tape, hb.output, hb.size, fun j hj _ => hb.block j hj⟩ (by simp)
theorem MapI.alloc (h : MapI e P k w b n f c) (o : Obj) : MapI e P k (w.alloc o) b n f c := by
  obtain ⟨D, h, r⟩ := h; exact ⟨D, h.alloc o, r⟩
theorem MapI.ext {g : Int → Option α} (h : MapI e P k w b n f c) (hg : ∀ x, InI x → f x = g x) : MapI e P k w b n g c := by
  obtain ⟨D, h, hs, ht⟩ := h
  exact ⟨D, h, hs, fun x hx => by rw [← hg x hx]; exact ht x hx⟩
theorem keyOf_I (hk : P.underlying k = some (.int .i64)) {x : Int} (hx : InI x) : keyOf P k (.int .i64 x) = some (.int .i64 x) := Maps.keyOf_int_mk hk hx
theorem isKey_I (x : Int) : WideAt.IsKeyLit (.int .i64 x) := trivial
end
section
variable {α : Type} {e : α → Value} {P : Program} (w : World) {ops : Array Oper} {rest : List Oper} {o : Oper} {a : Act} {Q : Exit → Act → World → Prop}
theorem lookI_run {k el t : TypeId} {b n c : Nat} {f : Int → Option α} {w : World} (cm : Bool) (hk : P.underlying k = some (.int .i64)) (ht : P.underlying t = some (.map k el)) (a0 : α) (hz : (zeroValue el).run P w = .ok (e a0) w)
    (hown : MapI e P k w b n f c) {key : Int} (hkey : InI key) :
    (Instr.lookup t (.map (some b)) (.int .i64 key) cm).run P w = .ok (if cm then .tuple #[e ((f key).getD a0), .bool (f key).isSome] else e ((f key).getD a0)) w := by
  obtain ⟨D, hD, _, ht2⟩ := hown
  obtain ⟨hh, hat⟩ := ht2 key hkey
  have K := Maps.int_keyed hk
  cases cm
  · obtain ⟨v, ps, hrun, hv⟩ := hD.lookup K ht hz (rdE_mk e a0) (keyOf_I hk hkey)
    obtain ⟨x, rfl, hy⟩ := rdE_inv hv
    have hy := congrArg Prod.fst hy
    simp only at hy
    rw [hrun]
    cases hf : f key with
    | none =>
      rw [hf] at hh
      rw [Maps.atKey_of_not_has hh] at hy
      simp [DataW.held.inj hy]
    | some u =>
      rw [hat u hf] at hy
      simp [DataW.held.inj hy]
  · obtain ⟨v, ps, hrun, hv⟩ := hD.look_ok K ht hz (rdE_mk e a0) (keyOf_I hk hkey)
    obtain ⟨x, rfl, hy⟩ := rdE_inv hv
    have hy := congrArg Prod.fst hy
    simp only at hy
    rw [hrun, hh]
    cases hf : f key with
    | none =>
      rw [hf] at hh
      rw [Maps.atKey_of_not_has hh] at hy
      simp [DataW.held.inj hy]
    | some u =>
      rw [hat u hf] at hy
      simp [DataW.held.inj hy]
/-- 'v, ok := m[k]'. -/
theorem wpList_lookI_ok (hg : o.guard = none) (m x : Operand) (t : TypeId) (hop : o.op = Op.lookup t m x true) (k el : TypeId) (hk : P.underlying k = some (.int .i64)) (ht : P.underlying t = some (.map k el)) (a0 : α) (hz : (zeroValue el).run P w = .ok (e a0) w)
    (b n c : Nat) (f : Int → Option α) (hm : a.eval m = .map (some b)) (hown : MapI e P k w b n f c) (key : Int) (hx : a.eval x = .int .i64 key) (hkey : InI key)
    (hK : wpList P ops Q rest (a.put o.dst (.tuple #[e ((f key).getD a0), .bool (f key).isSome])) w) : wpList P ops Q (o :: rest) a w := by
  refine wpList_plain hg fun K' hK' => ?_
  have hrun := lookI_run true hk ht a0 hz hown hkey
  unfold Oper.wp
  simp only [if_true] at hrun
  simp [execOp, hop, hm, hx, hrun, Result.andThen]
  exact hK' _ _ hK
/-- 'm[k]'. -/
theorem wpList_lookI (hg : o.guard = none) (m x : Operand) (t : TypeId) (hop : o.op = Op.lookup t m x false) (k el : TypeId) (hk : P.underlying k = some (.int .i64)) (ht : P.underlying t = some (.map k el)) (a0 : α) (hz : (zeroValue el).run P w = .ok (e a0) w)
    (b n c : Nat) (f : Int → Option α) (hm : a.eval m = .map (some b)) (hown : MapI e P k w b n f c) (key : Int) (hx : a.eval x = .int .i64 key) (hkey : InI key)
    (hK : wpList P ops Q rest (a.put o.dst (e ((f key).getD a0))) w) : wpList P ops Q (o :: rest) a w := by
  refine wpList_plain hg fun K' hK' => ?_
  have hrun := lookI_run false hk ht a0 hz hown hkey
  unfold Oper.wp
  simp only [Bool.false_eq_true, if_false] at hrun
  simp [execOp, hop, hm, hx, hrun, Result.andThen]
  exact hK' _ _ hK
def putF (f : Int → Option α) (key : Int) (val : α) : Int → Option α := fun y => if y = key then some val else f y
theorem putF_same (f : Int → Option α) (key : Int) (val : α) : putF f key val key = some val := by simp [putF]
theorem putF_other (f : Int → Option α) {key y : Int} (val : α) (h : y ≠ key) : putF f key val y = f y := by simp [putF, h]
/-- 'm[k] = v'. -/
theorem wpList_putI (hg : o.guard = none) (m x v : Operand) (t : TypeId) (hop : o.op = Op.mapUpdate t m x v) (k el : TypeId) (hk : P.underlying k = some (.int .i64)) (ht : P.underlying t = some (.map k el))
    (b n c : Nat) (f : Int → Option α) (hm : a.eval m = .map (some b)) (hown : MapI e P k w b n f c) (hn : n < maxLen) (key : Int) (hx : a.eval x = .int .i64 key) (hkey : InI key) (val : α) (hv : a.eval v = e val)
    (hK : ∀ w', MapI e P k w' b (n + 1) (putF f key val) (if (f key).isSome then c else c + 1) → w.grownBy w' (some b) → wpList P ops Q rest (a.put o.dst undef) w') : wpList P ops Q (o :: rest) a w := by
  obtain ⟨D, hD, hs, ht2⟩ := hown
  refine wpList_mapUpdate_own w hg m x v t hop k el (Maps.int_keyed hk) ht (rdE e) b n D hm hD hn _ _ _ hx hv (keyOf_I hk hkey) _ [] (rdE_mk e val) fun w' h1 h2 => hK w' ⟨_, h1, ?_, fun y hy => ?_⟩ h2
  · rw [Maps.size_put (hD.tidy (Maps.int_keyed hk)), (ht2 key hkey).1, hs]
  · by_cases he : y = key
    · subst he
      rw [putF_same]
      exact ⟨Maps.has_put_same hD.isMap (isKey_I y) _, fun u hu z => by cases hu; exact Maps.atKey_put_same hD.isMap (isKey_I y) _ _⟩
    · have hne : Lit.int .i64 y ≠ .int .i64 key := fun h => he (by cases h; rfl)
      rw [putF_other f val he]
      exact ⟨(Maps.has_put_other hne _).trans (ht2 y hy).1, fun u hu z => (Maps.atKey_put_other hne _ _).trans ((ht2 y hy).2 u hu z)⟩
/-- A range over a map under way: 'left x': is the entry at x still to come? -/
def RangeI (e : α → Value) (P : Program) (k : TypeId) (w : World) (b r n : Nat) (f : Int → Option α) (left : Int → Bool) (cnt : Nat) : Prop :=
  ∃ D L, w.ranges P k (rdE e) b r n D L cnt ∧ Tells e D f ∧ ∀ x, InI x → L (.int .i64 x) = left x
theorem RangeI.owns {k : TypeId} {b r n cnt : Nat} {f : Int → Option α} {left : Int → Bool} {w : World} (h : RangeI e P k w b r n f left cnt) : ∃ c, MapI e P k w b n f c := by
  obtain ⟨D, L, h, ht, _⟩ := h
  exact ⟨_, D, h.owns, rfl, ht⟩
theorem RangeI.ne {k : TypeId} {b r n cnt : Nat} {f : Int → Option α} {left : Int → Bool} {w : World} (h : RangeI e P k w b r n f left cnt) : r ≠ b := by
  obtain ⟨D, L, h, _⟩ := h; exact h.ne
theorem RangeI.lt {k : TypeId} {b r n cnt : Nat} {f : Int → Option α} {left : Int → Bool} {w : World} (h : RangeI e P k w b r n f left cnt) : r < w.heap.size := by
  obtain ⟨D, L, h, _⟩ := h; exact h.lt
theorem RangeI.left_eq {k : TypeId} {b r n cnt : Nat} {f : Int → Option α} {left : Int → Bool} {w : World} (h : RangeI e P k w b r n f left cnt) : w.rangeLeft b r = cnt := by
  obtain ⟨D, L, h, _⟩ := h; exact h.left_eq
theorem RangeI.kept {k : TypeId} {b r n cnt : Nat} {f : Int → Option α} {left : Int → Bool} {w w' : World} {row : Option Nat} (h : RangeI e P k w b r n f left cnt) (hg : w.grownBy w' row) (hb : some b ≠ row) (hr : some r ≠ row) : RangeI e P k w' b r n f left cnt := by
  obtain ⟨D, L, h, q⟩ := h; exact ⟨D, L, h.kept hg hb hr, q⟩
theorem RangeI.alloc {k : TypeId} {b r n cnt : Nat} {f : Int → Option α} {left : Int → Bool} {w : World} (h : RangeI e P k w b r n f left cnt) (o : Obj) : RangeI e P k (w.alloc o) b r n f left cnt := by
  obtain ⟨D, L, h, q⟩ := h; exact ⟨D, L, h.alloc o, q⟩
theorem RangeI.below {k : TypeId} {b r n cnt : Nat} {f : Int → Option α} {left : Int → Bool} {w w' : World} (h : RangeI e P k w b r n f left cnt) (hb : Below w.heap.size w w') : RangeI e P k w' b r n f left cnt :=
  h.kept (row := none) ⟨hb.os, hb.tape, hb.output, hb.size, fun j hj _ => hb.block j hj⟩ (by simp) (by simp)
/-- 'range m'. -/
theorem wpList_rangeI (hg : o.guard = none) (m : Operand) (t : TypeId) (hop : o.op = Op.range t m) (k el : TypeId) (hk : P.underlying k = some (.int .i64)) (ht : P.underlying t = some (.map k el)) (b n c : Nat) (f : Int → Option α)
    (hm : a.eval m = .map (some b)) (hown : MapI e P k w b n f c)
    (hK : ∀ w', RangeI e P k w' b w.heap.size n f (fun x => (f x).isSome) c → w.grownBy w' none → w'.heap.size = w.heap.size + 1 → wpList P ops Q rest (a.put o.dst (.pointer (some ⟨w.heap.size, 0, none⟩))) w') :
    wpList P ops Q (o :: rest) a w := by
  obtain ⟨D, hD, hs, ht2⟩ := hown
  refine wpList_range_own w hg m t hop k el (Maps.int_keyed hk) ht (rdE e) b n D hm hD fun w' h1 h2 h3 => hK w' ⟨D, _, hs ▸ h1, ht2, fun x hx => (ht2 x hx).1⟩ h2 h3
/-- The step of a range. -/
theorem wpList_nextI (hg : o.guard = none) (it : Operand) (hop : o.op = Op.next it false) (k : TypeId) (hk : P.underlying k = some (.int .i64)) (hinj : ∀ x y : α, e x = e y → x = y)
    (b r n : Nat) (f : Int → Option α) (left : Int → Bool) (cnt : Nat) (hit : a.eval it = .pointer (some ⟨r, 0, none⟩)) (h : RangeI e P k w b r n f left cnt)
    (hDone : cnt = 0 → (∀ x, InI x → left x = false) → wpList P ops Q rest (a.put o.dst (.tuple #[.bool false])) w)
    (hMore : ∀ (x : Int) (u : α) (w' : World) (cnt' : Nat), InI x → left x = true → f x = some u → RangeI e P k w' b r n f (fun y => left y && !decide (y = x)) cnt' → cnt' < cnt →
      w.grownBy w' (some r) → w'.heap.size = w.heap.size → (Instr.entry (.pointer (some ⟨r, 0, none⟩))).run P w' = .ok (.tuple #[.int .i64 x, e u]) w' → wpList P ops Q rest (a.put o.dst (.tuple #[.bool true, .int .i64 x, e u])) w') :
    wpList P ops Q (o :: rest) a w := by
  obtain ⟨D, L, hr, ht2, hL⟩ := h
  refine wpList_next_ranges w hg it hop k (Maps.int_keyed hk) (rdE e) (Value.int .i64) e (fun key kl hkey => by obtain ⟨x, rfl, _⟩ := Maps.keyOf_int_inv hk hkey; exact ⟨x, rfl⟩) (fun v y hv => by obtain ⟨c, rfl, _⟩ := rdE_inv hv; exact ⟨c, rfl⟩)
    b r n D L cnt hit hr (fun h0 hl => hDone h0 fun x hx => (hL x hx).symm.trans (hl _)) fun x u kl y w' cnt' hkey hlk hv hat hrg hlt hgr hsz hen => ?_
  obtain ⟨x', ex, rfl, hwx⟩ := Maps.keyOf_int_inv hk hkey
  cases ex
  obtain ⟨u', eu, rfl⟩ := rdE_inv hv
  obtain ⟨hh, hf⟩ := ht2 x hwx
  have hhas : Maps.has D (.int .i64 x) = true := Maps.has_true_of_atKey hat
  rw [hhas] at hh
  obtain ⟨u2, hu2⟩ := Option.isSome_iff_exists.1 hh.symm
  have e1 := (hf u2 hu2 .nil).symm.trans (hat .nil)
  simp only [DataW.held.injEq] at e1
  have e2 : u2 = u := hinj _ _ (e1.trans eu.symm)
  subst e2
  refine hMore x u2 w' cnt' hwx ((hL x hwx).symm.trans hlk) hu2 ⟨D, _, hrg, ht2, fun y hy => ?_⟩ hlt hgr hsz hen
  rw [hL y hy]
  by_cases hyx : y = x
  · subst hyx
    rw [WideAt.sameKey_self (isKey_I y)]; simp
  · rw [Maps.sameKey_ne (fun h => hyx (by cases h; rfl))]; simp [hyx]
end
end Go.Proofs.YtfancjmhdbaoeaaGreatDoor

namespace Go.Proofs.YtfancjmhdbaoeaaGreatDoor
set_option maxRecDepth 100000
open Go.RowKit

theorem inI_of {x : Int} (h : IntOk x) : InI x := WalkArith.wf_i64 (by have := h.1; have := h.2; omega)
def eI : Int → Value := Value.int .i64
def eO : OpV → Value := OpV.v
theorem eO_inj : ∀ x y : OpV, eO x = eO y → x = y := by
  rintro ⟨a, b, c⟩ ⟨a', b', c'⟩ h
  unfold eO OpV.v at h
  simp at h
  obtain ⟨rfl, rfl, rfl⟩ := h
  rfl
/-- The last operation of a key; the first one; the last write. -/
def lastO (l : List OpV) (x : Int) : Option OpV := (l.filter fun o => o.key == x).getLast?
def firstO (l : List OpV) (x : Int) : Option OpV := l.find? fun o => o.key == x
def lastW (l : List OpV) (x : Int) : Option OpV := (l.filter fun o => o.wr && o.key == x).getLast?
theorem take_snoc (l : List OpV) (k : Nat) (hk : k < l.length) : l.take (k + 1) = l.take k ++ [l[k]] := List.take_succ_eq_append_getElem hk
theorem lastO_snoc (l : List OpV) (o : OpV) : lastO (l ++ [o]) = putF (lastO l) o.key o := by
  funext y
  unfold lastO putF
  rw [List.filter_append]
  by_cases h : y = o.key
  · subst h; simp
  · have : (o.key == y) = false := by simp; exact fun e => h e.symm
    simp [this, h]
theorem lastW_snoc (l : List OpV) (o : OpV) : lastW (l ++ [o]) = if o.wr then putF (lastW l) o.key o else lastW l := by
  funext y
  cases hw : o.wr
  · unfold lastW; rw [List.filter_append]; simp [hw]
  · simp only [if_true]
    unfold lastW putF
    rw [List.filter_append]
    by_cases h : y = o.key
    · subst h; simp [hw]
    · have : (o.key == y) = false := by simp; exact fun e => h e.symm
      simp [hw, this, h]
theorem firstO_snoc (l : List OpV) (o : OpV) : firstO (l ++ [o]) = if (firstO l o.key).isSome then firstO l else putF (firstO l) o.key o := by
  funext y
  unfold firstO putF
  by_cases h : y = o.key
  · subst h
    cases hf : l.find? (fun p => p.key == o.key) <;> simp [hf]
  · have : (o.key == y) = false := by simp; exact fun e => h e.symm
    cases hf : l.find? (fun p => p.key == o.key) <;> simp [this, h]
theorem firstO_key {l : List OpV} {x : Int} {o : OpV} (h : firstO l x = some o) : o.key = x ∧ o ∈ l := by
  unfold firstO at h
  exact ⟨by simpa using List.find?_some h, List.mem_of_find?_eq_some h⟩
theorem lastW_key {l : List OpV} {x : Int} {o : OpV} (h : lastW l x = some o) : o.key = x ∧ o.wr = true ∧ o ∈ l := by
  unfold lastW at h
  have := List.mem_of_getLast? h
  simp at this
  exact ⟨this.2.2, this.2.1, this.1⟩
/-- What is steady at the place k: it reads what the last operation of its key has. -/
def stOk (l : List OpV) (k : Nat) : Bool :=
  match l[k]? with
  | none => true
  | some o => match lastO (l.take k) o.key with
    | none => true
    | some p => o.wr || o.val == p.val
def steadyL (l : List OpV) : Bool := (List.range l.length).all (stOk l)
theorem steadyL_all {l : List OpV} (h : ∀ j, j < l.length → stOk l j = true) : steadyL l = true := by
  unfold steadyL; rw [List.all_eq_true]; intro j hj; exact h j (List.mem_range.1 hj)
theorem steadyL_no {l : List OpV} {k : Nat} (hk : k < l.length) (h : stOk l k = false) : steadyL l = false := by
  unfold steadyL; rw [List.all_eq_false]; exact ⟨k, List.mem_range.2 hk, by simp [h]⟩
theorem stOk_at {l : List OpV} {k : Nat} (hk : k < l.length) : stOk l k = match lastO (l.take k) l[k].key with
    | none => true
    | some p => l[k].wr || l[k].val == p.val := by
  unfold stOk; rw [List.getElem?_eq_getElem hk]
/-- Rising by keys, just those that f has, of the one kind. -/
def Rise (f : Int → Option OpV) (wr : Bool) (out : List OpV) : Prop := out.Pairwise (fun a b => a.key < b.key) ∧ ∀ o, o ∈ out ↔ (f o.key = some o ∧ o.wr = wr)
theorem rise_tail {a : OpV} {l m : List OpV} (h1 : ∀ x ∈ l, a.key < x.key) (h2 : ∀ x ∈ m, a.key < x.key) (hm : ∀ o, o ∈ a :: l ↔ o ∈ a :: m) : ∀ o, o ∈ l ↔ o ∈ m := by
  intro o
  have := hm o
  simp only [List.mem_cons] at this
  constructor
  · intro ho
    rcases this.1 (Or.inr ho) with rfl | h
    · have := h1 _ ho; omega
    · exact h
  · intro ho
    rcases this.2 (Or.inr ho) with rfl | h
    · have := h2 _ ho; omega
    · exact h
theorem rise_eq : ∀ {l m : List OpV}, l.Pairwise (fun a b => a.key < b.key) → m.Pairwise (fun a b => a.key < b.key) → (∀ o, o ∈ l ↔ o ∈ m) → l = m
  | [], [], _, _, _ => rfl
  | [], b :: m, _, _, h => by have := (h b).2 List.mem_cons_self; cases this
  | a :: l, [], _, _, h => by have := (h a).1 List.mem_cons_self; cases this
  | a :: l, b :: m, hl, hm, h => by
    obtain ⟨l1, l2⟩ := List.pairwise_cons.1 hl
    obtain ⟨m1, m2⟩ := List.pairwise_cons.1 hm
    have e : a = b := by
      rcases List.mem_cons.1 ((h a).1 List.mem_cons_self) with e | e
      · exact e
      · rcases List.mem_cons.1 ((h b).2 List.mem_cons_self) with e' | e'
        · exact e'.symm
        · have := m1 _ e; have := l1 _ e'; omega
    subst e
    rw [rise_eq l2 m2 (rise_tail l1 m1 h)]
theorem Rise.eq {f : Int → Option OpV} {wr : Bool} {l m : List OpV} (h1 : Rise f wr l) (h2 : Rise f wr m) : l = m :=
  rise_eq h1.1 h2.1 fun o => (h1.2 o).trans (h2.2 o).symm
end Go.Proofs.YtfancjmhdbaoeaaGreatDoor

namespace Go.Proofs.YtfancjmhdbaoeaaGreatDoor
set_option maxRecDepth 100000
open Go.RowKit

theorem keyI : Tryz.prog.underlying 3 = some (.int .i64) := Tryz.underlying3
theorem mapII : Tryz.prog.underlying 192 = some (.map 3 3) := Tryz.underlying192
theorem zeroI (w : World) : (zeroValue 3).run Tryz.prog w = .ok (eI 0) w := by kernel_rfl
theorem txnBlock (w : World) (x y z u : Value) (t : TypeId) : (w.alloc (.cells #[x, y, z, u] t)).cell? ⟨w.heap.size, 0, none⟩ = some x ∧ (w.alloc (.cells #[x, y, z, u] t)).cell? ⟨w.heap.size, 1, none⟩ = some y ∧ (w.alloc (.cells #[x, y, z, u] t)).cell? ⟨w.heap.size, 2, none⟩ = some z ∧ (w.alloc (.cells #[x, y, z, u] t)).cell? ⟨w.heap.size, 3, none⟩ = some u := by
  refine ⟨?_, ?_, ?_, ?_⟩ <;> simp
/-- The values that operations have last. -/
def valO (l : List OpV) : Int → Option Int := fun x => (lastO l x).map (·.val)
theorem valO_snoc (l : List OpV) (o : OpV) : valO (l ++ [o]) = putF (valO l) o.key o.val := by
  funext y
  unfold valO
  rw [lastO_snoc]
  unfold putF
  split <;> rfl
theorem valO_none {l : List OpV} {x : Int} (h : valO l x = none) : lastO l x = none := by
  unfold valO at h; simpa using h
theorem valO_some {l : List OpV} {x v : Int} (h : valO l x = some v) : ∃ p, lastO l x = some p ∧ p.val = v := by
  unfold valO at h; simpa using h
theorem all_snoc {p : Nat → Prop} {k : Nat} (h : ∀ j, j < k → p j) (hk : p k) : ∀ j, j < k + 1 → p j := fun j hj => by
  rcases Nat.lt_or_eq_of_le (Nat.le_of_lt_succ hj) with h1 | rfl
  · exact h j h1
  · exact hk
set_option maxHeartbeats 4000000 in
theorem steady_any (s b c : Int) (va : Value) (l : List OpV) (w : World) (ha : Ops w va l) (hok : ∀ o ∈ l, o.ok) (hlen : l.length ≤ 100000) :
    Calls Tryz.prog 111 #[.agg #[.int .i64 s, .int .i64 b, .int .i64 c, va]] w fun e w' => e = .returned (.bool (steadyL l)) ∧ Below w.heap.size w w' := by
  obtain ⟨ao, cap, rfl, hal⟩ := ha.form
  have HOK := Lib.hid hok
  clear hok
  have hb0 := (Below.refl w.heap.size w).alloc (Nat.le_refl _) (.cells #[.int .i64 s, .int .i64 b, .int .i64 c, .slice ao l.length cap] 91)
  have hm0 := MapI.made eI Tryz.prog 3 (w.alloc (.cells #[.int .i64 s, .int .i64 b, .int .i64 c, .slice ao l.length cap] 91))
  have hb1 := hb0.alloc hb0.size (.map #[] 0)
  have hmm := @run_makeMap Tryz.prog
  go_enter Tryz.func111, Tryz.ntmps111
  rw [show (w.alloc (.cells #[.int .i64 s, .int .i64 b, .int .i64 c, .slice ao l.length cap] 91)).heap.size = w.heap.size + 1 from by simp] at hm0
  go_wp2_with fail
  go_loopw [12] (fun i wr => ∃ k cnt : Nat, k ≤ l.length ∧ i = .int .i64 k ∧ (∀ j, j < k → stOk l j = true) ∧ MapI eI Tryz.prog 3 wr (w.heap.size + 1) k (valO (l.take k)) cnt ∧ Below w.heap.size w wr) (fun i _ => l.length - (intOf i).toNat)
  case atStart => exact ⟨0, 0, by omega, rfl, by omega, hm0, hb1⟩
  case round =>
    obtain ⟨k, cnt, hk, rfl, hst, hM, hb⟩ := hrel
    have HST := Lib.hid hst
    clear hst hm0 hb0 hb1
    by_cases hlt : k < l.length
    · have hki : (k : Int) < (l.length : Int) := by omega
      obtain ⟨g, o, hao, c0, c1, c2⟩ := (ha.below hb).at hlt
      cases hao
      have HV : Hid (valO (l.take (k + 1)) = putF (valO (l.take k)) l[k].key l[k].val) := Lib.hid (by rw [take_snoc l k hlt, valO_snoc])
      have HS := Lib.hid (stOk_at hlt)
      have HNO := Lib.hid (fun h => steadyL_no hlt h)
      have hox := HOK.out l[k] (List.getElem_mem hlt)
      have hkey := inI_of hox.1
      generalize l[k] = x at *
      obtain ⟨wr', key, val⟩ := x
      simp only at c0 c1 c2 hkey
      have hM1 := hM.alloc (.cells #[.bool wr', .int .i64 key, .int .i64 val] 87)
      have hbb := hb.alloc hb.size (.cells #[.bool wr', .int .i64 key, .int .i64 val] 87)
      clear hox
      cases hv : valO (l.take k) key with
      | none =>
        have H : Hid (stOk l k = true) := Lib.hid (by rw [HS.out, valO_none hv])
        clear HNO
        go_wp2_with (first | (at_lookup; refine wpList_lookI_ok _ rfl _ _ 192 rfl 3 3 keyI mapII 0 (zeroI _) _ _ _ _ rfl hM1 _ rfl hkey ?_; rw [hv]) | (at_mapUpdate; refine wpList_putI _ rfl _ _ _ 192 rfl 3 3 keyI mapII _ _ _ _ rfl hM1 (by unfold maxLen; omega) _ rfl hkey val rfl ?_; intro w1 hM2 hg; go_frame) | go_in)
        have hb2 := hbb.grown hg hbb.size (fun j hj => by cases hj; omega)
        go_wp2_with fail
        go_roundw
        case rel => exact ⟨k + 1, _, by omega, by go_num, all_snoc HST.out H.out, by rw [HV.out]; exact hM2, hb2⟩
        case measure => simp [intOf]; omega
      | some v =>
        obtain ⟨p, hp, hpv⟩ := valO_some hv
        have HSP : Hid (stOk l k = (wr' || val == v)) := Lib.hid (by rw [HS.out, hp, ← hpv])
        clear HS hp hpv
        cases wr'
        · by_cases hvv : val = v
          · have H : Hid (stOk l k = true) := Lib.hid (by rw [HSP.out, hvv]; simp)
            have hne : (val != v) = false := by simp [hvv]
            clear HNO HSP hvv
            go_wp2_with (first | (at_lookup; refine wpList_lookI_ok _ rfl _ _ 192 rfl 3 3 keyI mapII 0 (zeroI _) _ _ _ _ rfl hM1 _ rfl hkey ?_; rw [hv]; simp only [Option.getD_some, Option.isSome_some, eI]) | (at_mapUpdate; refine wpList_putI _ rfl _ _ _ 192 rfl 3 3 keyI mapII _ _ _ _ rfl hM1 (by unfold maxLen; omega) _ rfl hkey val rfl ?_; intro w1 hM2 hg; go_frame) | go_in)
            have hb2 := hbb.grown hg hbb.size (fun j hj => by cases hj; omega)
            go_wp2_with fail
            go_roundw
            case rel => exact ⟨k + 1, _, by omega, by go_num, all_snoc HST.out H.out, by rw [HV.out]; exact hM2, hb2⟩
            case measure => simp [intOf]; omega
          · have H : Hid (steadyL l = false) := Lib.hid (HNO.out (by rw [HSP.out]; simpa using hvv))
            have hne : (val != v) = true := by simpa using hvv
            clear HNO HSP hvv
            go_wp2_with (first | (at_lookup; refine wpList_lookI_ok _ rfl _ _ 192 rfl 3 3 keyI mapII 0 (zeroI _) _ _ _ _ rfl hM1 _ rfl hkey ?_; rw [hv]; simp only [Option.getD_some, Option.isSome_some, eI]) | go_in)
            go_ret
            exact ⟨ret_b H.out.symm, hbb⟩
        · have H : Hid (stOk l k = true) := Lib.hid (by rw [HSP.out]; rfl)
          clear HNO HSP
          go_wp2_with (first | (at_lookup; refine wpList_lookI_ok _ rfl _ _ 192 rfl 3 3 keyI mapII 0 (zeroI _) _ _ _ _ rfl hM1 _ rfl hkey ?_; rw [hv]; simp only [Option.getD_some, Option.isSome_some, eI]) | (at_mapUpdate; refine wpList_putI _ rfl _ _ _ 192 rfl 3 3 keyI mapII _ _ _ _ rfl hM1 (by unfold maxLen; omega) _ rfl hkey val rfl ?_; intro w1 hM2 hg; go_frame) | go_in)
          have hb2 := hbb.grown hg hbb.size (fun j hj => by cases hj; omega)
          go_wp2_with fail
          go_roundw
          case rel => exact ⟨k + 1, _, by omega, by go_num, all_snoc HST.out H.out, by rw [HV.out]; exact hM2, hb2⟩
          case measure => simp [intOf]; omega
    · have hkl : k = l.length := by omega
      have H : Hid (steadyL l = true) := Lib.hid (steadyL_all (by rw [← hkl]; exact HST.out))
      go_wp2_with fail
      go_ret
      exact ⟨ret_b H.out.symm, hb⟩
end Go.Proofs.YtfancjmhdbaoeaaGreatDoor

namespace Go.Proofs.YtfancjmhdbaoeaaGreatDoor
set_option maxRecDepth 100000
open Go.RowKit

theorem lastO_step {l : List OpV} {j : Nat} (hj : j < l.length) (key : Int) : lastO (l.take (j + 1)) key = if key = l[j].key then some l[j] else lastO (l.take j) key := by
  rw [take_snoc l j hj, lastO_snoc]; rfl
set_option maxHeartbeats 4000000 in
theorem before_any (va : Value) (l : List OpV) (k : Nat) (key : Int) (w : World) (ha : Ops w va l) (hk : k ≤ l.length) :
    Calls Tryz.prog 158 #[va, .int .i64 k, .int .i64 key] w fun e w' => e = .returned (.tuple #[eO ((lastO (l.take k) key).getD opZ), .bool (lastO (l.take k) key).isSome]) ∧ Below w.heap.size w w' := by
  obtain ⟨ao, cap, rfl, hal⟩ := ha.form
  obtain ⟨⟨c0, c1, c2⟩, f0, f1, f2⟩ := op_cells (Below.refl (w.heap.size + 1) (w.alloc (.cells #[.bool false, .int .i64 0, .int .i64 0] 87)))
  have hb0 := (Below.refl w.heap.size w).alloc (Nat.le_refl _) (.cells #[.bool false, .int .i64 0, .int .i64 0] 87)
  go_enter Tryz.func158, Tryz.ntmps158
  go_wp2_with fail
  generalize w.alloc (.cells #[.bool false, .int .i64 0, .int .i64 0] 87) = w1 at *
  go_loopw [8] (fun i wr => ∃ j : Nat, j ≤ k ∧ i = .int .i64 ((j : Int) - 1) ∧ lastO (l.take k) key = lastO (l.take j) key ∧ w1 = wr) (fun i _ => (intOf i + 1).toNat)
  case atStart => exact ⟨k, by omega, rfl, rfl, rfl⟩
  case round =>
    obtain ⟨j, hj, hi, hL, rfl⟩ := hrel
    cases j with
    | zero =>
      obtain rfl : u8 = .int .i64 (-1) := hi
      rw [List.take_zero] at hL
      have HL := Lib.hid (show lastO (l.take k) key = none from hL)
      clear hL
      go_wp2_with fail
      obtain ⟨d0, d1, d2⟩ := put_three (.bool false) (.int .i64 0) (.int .i64 0) c0 c1 c2
      have hb6 := below_three (.bool false) (.int .i64 0) (.int .i64 0) hb0 (Nat.le_refl _)
      generalize World.setCell _ _ _ = w5 at *
      refine bodyPost_ret (v := .tuple #[.agg #[.bool false, .int .i64 0, .int .i64 0], .bool false]) (by simp [results, Tryz.results158, go_sem, d0, d1, d2]) rfl ⟨?_, hb6⟩
      rw [HL.out]; rfl
    | succ j =>
      have hi' : (((j + 1 : Nat) : Int) - 1) = (j : Int) := by omega
      rw [hi'] at hi
      subst hi
      have hlt : j < l.length := by omega
      have hjl : (j : Int) < (l.length : Int) := by omega
      obtain ⟨g, o, hao, e0, e1, e2⟩ := (ha.below hb0).at hlt
      cases hao
      rw [lastO_step hlt] at hL
      generalize l[j] = x at *
      obtain ⟨wr', kx, vx⟩ := x
      simp only at e0 e1 e2 hL
      by_cases hke : kx = key
      · subst hke
        rw [if_pos rfl] at hL
        have HL := Lib.hid hL
        clear hL
        go_wp2_with fail
        obtain ⟨d0, d1, d2⟩ := put_three (.bool wr') (.int .i64 kx) (.int .i64 vx) c0 c1 c2
        have hb6 := below_three (.bool wr') (.int .i64 kx) (.int .i64 vx) hb0 (Nat.le_refl _)
        generalize World.setCell _ _ _ = w5 at *
        refine bodyPost_ret (v := .tuple #[.agg #[.bool wr', .int .i64 kx, .int .i64 vx], .bool true]) (by simp [results, Tryz.results158, go_sem, d0, d1, d2]) rfl ⟨?_, hb6⟩
        rw [HL.out]; rfl
      · rw [if_neg (fun h => hke h.symm)] at hL
        have HL := Lib.hid hL
        have hke' : (kx == key) = false := by simpa using hke
        clear hL hke
        go_wp2_with fail
        go_roundw
        case rel => exact ⟨j, by omega, by go_num, HL.out, by first | rfl | trivial⟩
        case measure => simp [intOf]
set_option maxHeartbeats 4000000 in
theorem rsteady_any (va : Value) (l : List OpV) (w : World) (ha : Ops w va l) :
    Calls Tryz.prog 120 #[va] w fun e w' => e = .returned (.bool (steadyL l)) ∧ Below w.heap.size w w' := by
  obtain ⟨ao, cap, rfl, hal⟩ := ha.form
  go_enter Tryz.func120, Tryz.ntmps120
  go_wp2_with fail
  go_loopw [3] (fun i wr => ∃ k : Nat, k ≤ l.length ∧ i = .int .i64 k ∧ (∀ j, j < k → stOk l j = true) ∧ Below w.heap.size w wr) (fun i _ => l.length - (intOf i).toNat)
  case atStart => exact ⟨0, by omega, rfl, by omega, Below.refl _ _⟩
  case round =>
    obtain ⟨k, hk, rfl, hst, hb⟩ := hrel
    have HST := Lib.hid hst
    clear hst
    by_cases hlt : k < l.length
    · have hki : (k : Int) < (l.length : Int) := by omega
      obtain ⟨g, o, hao, c0, c1, c2⟩ := (ha.below hb).at hlt
      cases hao
      have HS := Lib.hid (stOk_at hlt)
      have HNO := Lib.hid (fun h => steadyL_no hlt h)
      have CB := Lib.hid (before_any _ l k l[k].key wr (ha.below hb) hk)
      have HAT := Lib.hid (fun (wx : World) (hbx : Below w.heap.size w wx) => (ha.below hbx).at hlt)
      generalize l[k] = x at *
      obtain ⟨wr', key, val⟩ := x
      simp only at c0 c1 c2
      generalize lastO (l.take k) key = q at *
      go_wp2_with fail
      refine (CB.out).mono ?_
      rintro e w1 ⟨rfl, hb1⟩
      have hb2 := below_then hb hb1
      clear CB
      cases q with
      | none =>
        have H : Hid (stOk l k = true) := Lib.hid HS.out
        have hb3 := hb2.alloc hb2.size (.cells #[.bool false, .int .i64 0, .int .i64 0] 87)
        have hx := opBlock w1 (.bool false) (.int .i64 0) (.int .i64 0) 87
        clear HS HNO c0 c1 c2 HAT
        simp only [Option.getD_none, Option.isSome_none, eO, OpV.v, opZ]
        go_wp2_with fail
        generalize w1.alloc (.cells #[.bool false, .int .i64 0, .int .i64 0] 87) = w2 at *
        obtain ⟨x0, x1, x2⟩ := hx
        go_quiet (fail)
        go_wp2_with fail
        go_roundw
        case rel => exact ⟨k + 1, by omega, by go_num, all_snoc HST.out H.out, below_drewN hb3 _⟩
        case measure => simp [intOf]; omega
      | some p =>
        obtain ⟨pw, pk, pv⟩ := p
        have hb3 := hb2.alloc hb2.size (.cells #[.bool pw, .int .i64 pk, .int .i64 pv] 87)
        have hx := opBlock w1 (.bool pw) (.int .i64 pk) (.int .i64 pv) 87
        have HSP : Hid (stOk l k = (wr' || val == pv)) := HS
        clear HS c0 c1 c2
        simp only [Option.getD_some, Option.isSome_some, eO, OpV.v]
        go_wp2_with fail
        generalize w1.alloc (.cells #[.bool pw, .int .i64 pk, .int .i64 pv] 87) = w2 at *
        obtain ⟨x0, x1, x2⟩ := hx
        obtain ⟨_, _, hao', c0, c1, c2⟩ := HAT.out _ hb3
        cases hao'
        cases wr'
        · by_cases hvv : val = pv
          · have H : Hid (stOk l k = true) := Lib.hid (by rw [HSP.out, hvv]; simp)
            have hne : (pv != val) = false := by simp [hvv]
            clear HNO HSP hvv
            go_quiet (fail)
            go_wp2_with fail
            go_roundw
            case rel => exact ⟨k + 1, by omega, by go_num, all_snoc HST.out H.out, below_drewN hb3 _⟩
            case measure => simp [intOf]; omega
          · have H : Hid (steadyL l = false) := Lib.hid (HNO.out (by rw [HSP.out]; simpa using hvv))
            have hne : (pv != val) = true := by simpa using (fun h => hvv h.symm)
            clear HNO HSP hvv
            go_quiet (fail)
            go_wp2_with fail
            go_ret
            exact ⟨ret_b H.out.symm, below_drewN hb3 _⟩
        · have H : Hid (stOk l k = true) := Lib.hid (by rw [HSP.out]; rfl)
          clear HNO HSP
          go_quiet (fail)
          go_wp2_with fail
          go_roundw
          case rel => exact ⟨k + 1, by omega, by go_num, all_snoc HST.out H.out, below_drewN hb3 _⟩
          case measure => simp [intOf]; omega
    · have hkl : k = l.length := by omega
      have H : Hid (steadyL l = true) := Lib.hid (steadyL_all (by rw [← hkl]; exact HST.out))
      go_wp2_with fail
      go_ret
      exact ⟨ret_b H.out.symm, hb⟩
end Go.Proofs.YtfancjmhdbaoeaaGreatDoor

namespace Go.Proofs.YtfancjmhdbaoeaaGreatDoor
set_option maxRecDepth 100000
open Go.RowKit

theorem infoOp : (Tryz.prog.info? 87).map (fun i => (i.zero, i.size, i.bytes)) = some (some (.agg #[.bool false, .int .i64 0, .int .i64 0]), 3, 24) := by kernel_rfl
/-- The call's own slice v holds these operations; its block lies from base on. -/
def Own (w : World) (base : Nat) (v : Value) (l : List OpV) : Prop := w.ownsRow base 87 3 v l.length (opV l)
theorem opV_app (l m : List OpV) : opV (l ++ m) = opV l ++ opV m := by simp [opV]
theorem opV_one (l : List OpV) : ∀ u ∈ opV l, u.oneCell' = true := by
  intro u hu
  unfold opV at hu
  obtain ⟨o, _, ho⟩ := List.mem_flatMap.1 hu
  simp at ho
  rcases ho with rfl | rfl | rfl <;> rfl
theorem opLit (w : World) (base : Nat) (o : OpV) (hb : base ≤ w.heap.size) : (w.alloc (.cells #[.bool o.wr, .int .i64 o.key, .int .i64 o.val] 87)).ownsRow base 87 3 (.slice (some ⟨w.heap.size, 0, none⟩) 1 1) 1 (opV [o]) :=
  World.ownsRow_lit (base := base) (size := 3) w #[.bool o.wr, .int .i64 o.key, .int .i64 o.val] 1 hb (by decide) rfl
theorem Own.ops {w : World} {base : Nat} {v : Value} {l : List OpV} (h : Own w base v l) : Ops w v l := Row.of_owns h
theorem Own.nil (w : World) (base : Nat) : Own w base (.slice none 0 0) [] := ⟨rfl, .inl ⟨rfl, rfl⟩⟩
theorem Own.below {w w' : World} {base : Nat} {v : Value} {l : List OpV} (h : Own w base v l) (hb : Below w.heap.size w w') : Own w' base v l := owns_below h hb
theorem Own.base {w : World} {base base' : Nat} {v : Value} {l : List OpV} (h : Own w base v l) (hb : base' ≤ base) : Own w base' v l := by
  obtain ⟨h1, h2⟩ := h
  refine ⟨h1, ?_⟩
  rcases h2 with h2 | ⟨g, cap, cur, e1, e2, r⟩
  · exact .inl h2
  · exact .inr ⟨g, cap, cur, e1, Nat.le_trans hb e2, r⟩
/-- What is read of others, key by key; what is written for them. -/
def rdK (l : List OpV) (k : Nat) : Option OpV := (firstO l k).filter fun o => !o.wr
def wrK (l : List OpV) (k : Nat) : Option OpV := lastW l k
def upTo (g : Nat → Option OpV) (n : Nat) : List OpV := (List.range n).filterMap g
theorem upTo_succ (g : Nat → Option OpV) (n : Nat) : upTo g (n + 1) = upTo g n ++ (g n).toList := by
  unfold upTo
  rw [List.range_succ, List.filterMap_append]
  cases h : g n <;> simp [h]
theorem upTo_len (g : Nat → Option OpV) (n : Nat) : (upTo g n).length ≤ n := by
  have := List.length_filterMap_le g (List.range n)
  unfold upTo; simpa using this
theorem upTo_mem {g : Nat → Option OpV} {n : Nat} {o : OpV} : o ∈ upTo g n ↔ ∃ k, k < n ∧ g k = some o := by
  unfold upTo; simp
theorem upTo_rise {g : Nat → Option OpV} (hg : ∀ k o, g k = some o → o.key = (k : Int)) : ∀ n, (upTo g n).Pairwise (fun a b => a.key < b.key)
  | 0 => by simp [upTo]
  | n + 1 => by
    rw [upTo_succ, List.pairwise_append]
    refine ⟨upTo_rise hg n, by cases g n <;> simp, fun a ha b hb => ?_⟩
    obtain ⟨k, hk, he⟩ := upTo_mem.1 ha
    have hb' : g n = some b := by simpa using hb
    rw [hg _ _ he, hg _ _ hb']; omega
theorem rdK_some {l : List OpV} {k : Nat} {o : OpV} : rdK l k = some o ↔ firstO l k = some o ∧ o.wr = false := by
  unfold rdK; rw [Option.filter_eq_some_iff]; simp
def refReads (l : List OpV) : List OpV := upTo (rdK l) 64
def refWrites (l : List OpV) : List OpV := upTo (wrK l) 64
def keysIn (l : List OpV) : Prop := ∀ o ∈ l, 0 ≤ o.key ∧ o.key < 64
theorem refReads_rise {l : List OpV} (h : keysIn l) : Rise (firstO l) false (refReads l) := by
  refine ⟨upTo_rise (fun k o hk => (firstO_key (rdK_some.1 hk).1).1) 64, fun o => ?_⟩
  unfold refReads
  rw [upTo_mem]
  constructor
  · rintro ⟨k, _, hk⟩
    obtain ⟨h1, h2⟩ := rdK_some.1 hk
    rw [(firstO_key h1).1]; exact ⟨h1, h2⟩
  · rintro ⟨h1, h2⟩
    obtain ⟨h3, h4⟩ := h o (firstO_key h1).2
    refine ⟨o.key.toNat, by omega, rdK_some.2 ⟨?_, h2⟩⟩
    rw [Int.toNat_of_nonneg h3]; exact h1
theorem refWrites_rise {l : List OpV} (h : keysIn l) : Rise (lastW l) true (refWrites l) := by
  refine ⟨upTo_rise (fun k o hk => (lastW_key hk).1) 64, fun o => ?_⟩
  unfold refWrites
  rw [upTo_mem]
  constructor
  · rintro ⟨k, _, hk⟩
    have h1 : lastW l k = some o := hk
    rw [(lastW_key h1).1]; exact ⟨h1, (lastW_key h1).2.1⟩
  · rintro ⟨h1, h2⟩
    obtain ⟨h3, h4⟩ := h o (lastW_key h1).2.2
    refine ⟨o.key.toNat, by omega, ?_⟩
    unfold wrK
    rw [Int.toNat_of_nonneg h3]; exact h1
theorem allM_keys {l : List OpV} (h : allM l = true) : keysIn l := fun o ho => by
  have := (mayO_iff o).1 (List.all_eq_true.1 h o ho)
  exact this.1
theorem firstO_none {l : List OpV} {x : Int} : (firstO l x).isSome = (lastO l x).isSome := by
  unfold firstO lastO
  rw [Bool.eq_iff_iff, List.find?_isSome]
  rw [← Option.ne_none_iff_isSome, Ne, List.getLast?_eq_none_iff]
  simp [List.filter_eq_nil_iff]
/-- The inner loop of the reference's Reads. -/
def rdTo (l : List OpV) (k j : Nat) : Option OpV := rdK (l.take j) k
theorem rdTo_succ {l : List OpV} {k j : Nat} (hj : j < l.length) : rdTo l k (j + 1) = if l[j].key = k ∧ l[j].wr = false ∧ lastO (l.take j) k = none then some l[j] else rdTo l k j := by
  unfold rdTo rdK
  rw [take_snoc l j hj, firstO_snoc]
  have hn := firstO_none (l := l.take j) (x := l[j].key)
  by_cases hs : (firstO (l.take j) l[j].key).isSome = true
  · rw [if_pos hs]
    rw [hs] at hn
    rw [if_neg]
    rintro ⟨h1, _, h3⟩
    rw [h1, h3] at hn
    cases hn
  · rw [if_neg hs]
    have hf : firstO (l.take j) l[j].key = none := by simpa using hs
    rw [hf] at hn
    have hl : lastO (l.take j) l[j].key = none := by simpa using hn.symm
    unfold putF
    by_cases hk : (k : Int) = l[j].key
    · rw [if_pos hk]
      cases hw : l[j].wr
      · rw [if_pos ⟨hk.symm, rfl, by rw [hk]; exact hl⟩]; simp [hw]
      · rw [if_neg (by simp), hk, hf]; simp [hw]
    · rw [if_neg hk, if_neg (fun h => hk h.1.symm)]
end Go.Proofs.YtfancjmhdbaoeaaGreatDoor

namespace Go.Proofs.YtfancjmhdbaoeaaGreatDoor
set_option maxRecDepth 100000
open Go.RowKit Go.Lib Go.Sort Go.Shelf

theorem nan_any (a : Int) (w : World) : Calls Tryz.prog 172 #[.int .i64 a] w fun e w' => e = .returned (.bool false) ∧ w = w' := by
  go_enter Tryz.func172, Tryz.ntmps172
  go_wp2_with fail
  go_ret
  exact ⟨rfl, rfl⟩
theorem compare_any (a b : Int) (w : World) : Calls Tryz.prog 167 #[.int .i64 a, .int .i64 b] w fun e w' => e = .returned (.int .i64 (compareInt a b)) ∧ w = w' := by
  have CA := Lib.hid (nan_any a w)
  have CB := Lib.hid (nan_any b w)
  have H1 : Hid (a < b → (-1 : Int) = compareInt a b) := Lib.hid (fun h => by unfold compareInt; simp [h])
  have H2 : Hid (¬ a < b → b < a → (1 : Int) = compareInt a b) := Lib.hid (fun h h' => by unfold compareInt; simp [h, h'])
  have H3 : Hid (¬ a < b → ¬ b < a → (0 : Int) = compareInt a b) := Lib.hid (fun h h' => by unfold compareInt; simp [h, h'])
  go_enter Tryz.func167, Tryz.ntmps167
  go_wp2_with fail
  refine (CA.out).mono ?_
  rintro e w1 ⟨rfl, rfl⟩
  go_wp2_with fail
  refine (CB.out).mono ?_
  rintro e w1 ⟨rfl, rfl⟩
  by_cases h1 : a < b
  · have H := Lib.hid (H1.out h1)
    clear H1 H2 H3 CA CB
    go_wp2_with fail
    go_ret
    exact ⟨ret_i H.out, rfl⟩
  · by_cases h2 : b < a
    · have H := Lib.hid (H2.out (by omega) h2)
      clear H1 H2 H3 CA CB
      go_wp2_with fail
      go_ret
      exact ⟨ret_i H.out, rfl⟩
    · have H := Lib.hid (H3.out (by omega) (by omega))
      clear H1 H2 H3 CA CB
      go_wp2_with fail
      go_ret
      exact ⟨ret_i H.out, rfl⟩
def encO (o : OpV) : List Value := [.bool o.wr, .int .i64 o.key, .int .i64 o.val]
def cmpO (x y : OpV) : Int := compareInt x.key y.key
instance : Inhabited OpV := ⟨opZ⟩
theorem cmp_lt (x y : OpV) : ltOf cmpO x y = decide (x.key < y.key) := by
  unfold ltOf cmpO compareInt
  by_cases h1 : x.key < y.key
  · simp [h1]
  · by_cases h2 : y.key < x.key <;> simp [h1, h2]
theorem cmp_swo : SWO (ltOf cmpO) where
  irrefl x := by rw [cmp_lt]; simp
  trans x y z h1 h2 := by rw [cmp_lt] at *; simp at *; omega
  ntrans x y z h1 h2 := by rw [cmp_lt] at *; simp at *; omega
theorem closure_any (x y : OpV) (w : World) : Calls Tryz.prog 166 #[.agg #[.bool x.wr, .int .i64 x.key, .int .i64 x.val], .agg #[.bool y.wr, .int .i64 y.key, .int .i64 y.val]] w fun e w' => e = .returned (.int .i64 (cmpO x y)) ∧ ∃ q os', w' = grow (w.drewN q) os' := by
  obtain ⟨xw, xk, xv⟩ := x
  obtain ⟨yw, yk, yv⟩ := y
  have CC := fun w => Lib.hid (compare_any xk yk w)
  show Calls _ _ _ _ fun e w' => e = .returned (.int .i64 (compareInt xk yk)) ∧ _
  generalize compareInt xk yk = r at *
  go_enter Tryz.func166, Tryz.ntmps166
  go_wp2_with fail
  refine ((CC _).out).mono ?_
  rintro e w' ⟨rfl, rfl⟩
  go_wp2_with fail
  go_ret
  exact ⟨rfl, 0, _, by rw [alloc_eq_grow, alloc_eq_grow, grow_grow]; rfl⟩
theorem cmp_lays (blk off size : Nat) (w : World) : CmpLays Tryz.prog 166 #[] encO 3 cmpO blk off size w := fun _ _ _ _ x y => closure_any x y _
theorem sort_any (blk off cap : Nat) (d : Array OpV) (w : World) (hH : HoldsK encO 3 w blk off d) (hblk : blk < w.heap.size) (hsz : d.size < 4611686018427387904) :
    Calls Tryz.prog 165 #[.slice (some ⟨blk, off, none⟩) d.size cap, .func (.func 166) #[] #[]] w fun e w' => e = .returned (.tuple #[]) ∧ ∃ d' n os, PermIn 0 d.size d d' ∧ SortedIn (ltOf cmpO) 0 d.size d' ∧ w' = sortWorldK encO 3 w blk off n d' os := by
  have eg : ∀ args w, (callFunc 166 args).run Tryz.prog w = .ok (.enter 166 args) w := enters_of Tryz.func166 (by kernel_rfl) rfl
  exact AnyQ.slices_SortFunc Tryz.sortOp 3 Tryz.isAgg87 Tryz.sizeOf87 encO (fun _ => rfl) (fun x v hv => by simp [encO] at hv; rcases hv with rfl | rfl | rfl <;> rfl) cmpO cmp_swo 166 #[] blk off cap d w eg (cmp_lays blk off d.size w) hH hblk hsz
theorem insNone (p : Option Addr) (cap : Nat) (fv : Value) (w : World) : Calls Tryz.prog 173 #[.slice p 0 cap, .int .i64 0, .int .i64 0, fv] w fun e w' => e = .returned (.tuple #[]) ∧ w = w' := by
  go_enter Tryz.func173, Tryz.ntmps173
  go_wp2_with fail
  refine wp_loop_rounds 1 ?_
  rw [rounds_succ]
  go_wp2_with fail
  go_end0
  exact ⟨rfl, rfl⟩
theorem pdqNone (p : Option Addr) (cap : Nat) (lim : Int) (fv : Value) (w : World) : Calls Tryz.prog 170 #[.slice p 0 cap, .int .i64 0, .int .i64 0, .int .i64 lim, fv] w fun e w' => e = .returned (.tuple #[]) ∧ w = w' := by
  have CI := Lib.hid (fun w => insNone p cap fv w)
  go_enter Tryz.func170, Tryz.ntmps170
  go_wp2_with fail
  refine wp_loop_rounds 1 ?_
  rw [rounds_succ]
  go_wp2_with fail
  refine (CI.out _).mono ?_
  rintro e w' ⟨rfl, rfl⟩
  go_wp2_with fail
  (try simp only [Exit.inBlock, Exit.then]); refine bodyPost_ret (results_none rfl _ _ _) rfl ?_
  exact ⟨rfl, rfl⟩
theorem sort_none (p : Option Addr) (cap : Nat) (fv : Value) (w : World) : Calls Tryz.prog 165 #[.slice p 0 cap, fv] w fun e w' => e = .returned (.tuple #[]) ∧ w = w' := by
  have CP := Lib.hid (fun lim w => pdqNone p cap lim fv w)
  have hl : ∀ W, Calls Tryz.prog 171 #[.int .u64 0] W fun e w' => e = .returned (.int .i64 (Lib.bitLen 0 : Nat)) ∧ w' = W := fun W =>
    Any.bits_Len (SlLaysF0.n15.bits (P := Tryz.prog) (ρ := Tryz.sortOp_ren) { Tryz.sortOp with }) 0 W (by omega) (by omega)
  have CL := Lib.hid hl
  clear hl
  go_enter Tryz.func165, Tryz.ntmps165
  go_wp2_with fail
  refine (CL.out _).mono ?_
  rintro e w' ⟨rfl, rfl⟩
  go_wp2_with fail
  refine (CP.out _ _).mono ?_
  rintro e w' ⟨rfl, rfl⟩
  go_wp2_with fail
  go_end0
  exact ⟨rfl, rfl⟩
end Go.Proofs.YtfancjmhdbaoeaaGreatDoor

namespace Go.Proofs.YtfancjmhdbaoeaaGreatDoor
set_option maxRecDepth 100000
open Go.RowKit Go.Lib Go.Sort Go.Shelf

theorem flat_opV (l : List OpV) : flatK encO 3 l.toArray = (opV l).toArray := by
  apply Array.ext
  · simp [opV_len]
  · intro t h1 h2
    have ht : t < l.length * 3 := by simpa using h1
    have hk : t / 3 < l.length := by omega
    obtain ⟨e0, e1, e2⟩ := opV_at l (t / 3) hk
    have hx : l.toArray[t / 3]! = l[t / 3] := by simp [hk]
    have h3 : (flatK encO 3 l.toArray)[t]! = (encO l[t / 3])[t % 3]! := by rw [get_flatK _ _ _ t (by simpa using ht), hx]
    rw [← getElem!_pos _ t h1, h3]
    have hm3 : t % 3 = 0 ∨ t % 3 = 1 ∨ t % 3 = 2 := by omega
    have hr : ∀ x, (opV l)[t]? = some x → (opV l).toArray[t] = x := fun x hx => by
      have := List.getElem?_eq_some_iff.1 hx
      simpa using this.2
    rcases hm3 with h | h | h
    · rw [hr _ (by rw [show t = t / 3 * 3 from by omega]; exact e0), h]; rfl
    · rw [hr _ (by rw [show t = t / 3 * 3 + 1 from by omega]; exact e1), h]; rfl
    · rw [hr _ (by rw [show t = t / 3 * 3 + 2 from by omega]; exact e2), h]; rfl
theorem holds_cells {w : World} {g : Nat} {cur : Array Value} {e : TypeId} {cs : List Value} (hb : w.heap[g]? = some (.cells cur e (0, 0))) (ht : cur.toList.take cs.length = cs) : Holds id w g 0 cs.toArray := by
  intro j hj
  have hj' : j < cs.length := by simpa using hj
  refine ⟨?_, by simp [World.frozen?, hb]⟩
  have h1 : (cur.toList.take cs.length)[j]? = cs[j]? := by rw [ht]
  rw [List.getElem?_take_of_lt hj'] at h1
  simp only [World.cell?, hb, Nat.zero_add]
  simp only [Option.isSome_none, Bool.false_eq_true, if_false]
  rw [← Array.getElem?_toList, h1]
  simp [hj']
theorem heap_grown {w : World} {os : Array Obj} {k : Nat} (h : k < w.heap.size) : (grow w os).heap[k]? = w.heap[k]? := by
  show (w.heap ++ os)[k]? = _
  rw [Array.getElem?_append_left h]
theorem take_put (cur : Array Value) (cs : List Value) (h : cs.length ≤ cur.size) : (putCells id 0 cs.toArray cur).toList.take cs.length = cs := by
  apply List.ext_getElem?
  intro j
  by_cases hj : j < cs.length
  · rw [List.getElem?_take_of_lt hj, Array.getElem?_toList]
    simp [putCells, hj, show j < cur.size by omega]
  · rw [List.getElem?_take_eq_none (by omega), List.getElem?_eq_none (by omega)]
/-- What the sort leaves: the same slice owns what was sorted. -/
theorem own_sorted {w : World} {base g cap n : Nat} {os : Array Obj} {l ts : List OpV} (hl : ts.length = l.length) (h : Own w base (.slice (some ⟨g, 0, none⟩) l.length cap) l) :
    Own (sortWorldK encO 3 w g 0 n ts.toArray os) base (.slice (some ⟨g, 0, none⟩) l.length cap) ts ∧ w.grownBy (sortWorldK encO 3 w g 0 n ts.toArray os) (some g) := by
  obtain ⟨h1, h2⟩ := h
  rcases h2 with ⟨h2, _⟩ | ⟨g', cap', cur, e1, e2, hb, e3, e4, e5, e6⟩
  · cases h2
  cases e1
  have hg : g < w.heap.size := (Array.getElem?_eq_some_iff.1 hb).1
  have ew : sortWorldK encO 3 w g 0 n ts.toArray os = grow (putRow id (Sort.ahead w n) g 0 (opV ts).toArray) os := by
    unfold sortWorldK putRowK; rw [flat_opV]
  rw [ew]
  have hh : (grow (putRow id (Sort.ahead w n) g 0 (opV ts).toArray) os).heap[g]? = some (.cells (putCells id 0 (opV ts).toArray cur) 87 (0, 0)) := by
    rw [heap_grown (by simpa using hg)]
    simp [putRow, mapBlock, Sort.ahead, Array.getElem?_modify, hb, onCells]
  refine ⟨⟨by rw [opV_len], .inr ⟨g, cap, _, by rw [hl], e2, hh, by omega, e4, by simp [putCells, e5], ?_⟩⟩, rfl, rfl, rfl, by simp, fun k hk hne => ?_⟩
  · have := take_put cur (opV ts) (by rw [opV_len]; have := opV_len l; omega)
    rwa [opV_len] at this
  · rw [heap_grown (by simpa using hk)]
    have : g ≠ k := fun e => hne (by rw [e])
    simp [putRow, mapBlock, Sort.ahead, Array.getElem?_modify, this]
theorem own_holds {w : World} {base g cap : Nat} {l : List OpV} (h : Own w base (.slice (some ⟨g, 0, none⟩) l.length cap) l) : HoldsK encO 3 w g 0 l.toArray ∧ g < w.heap.size ∧ base ≤ g := by
  obtain ⟨h1, h2⟩ := h
  rcases h2 with ⟨h2, _⟩ | ⟨g', cap', cur, e1, e2, hb, e3, e4, e5, e6⟩
  · cases h2
  cases e1
  refine ⟨?_, (Array.getElem?_eq_some_iff.1 hb).1, e2⟩
  show Holds id w g 0 _
  rw [flat_opV]
  exact holds_cells hb (by rw [opV_len]; exact e6)
theorem extract_all {α : Type} (d : Array α) : (d.extract 0 d.size).toList = d.toList := by simp
theorem sort_rise {f : Int → Option OpV} {wr : Bool} {acc : List OpV} {d' : Array OpV} (hm : ∀ o, o ∈ acc ↔ (f o.key = some o ∧ o.wr = wr)) (hnd : acc.Pairwise (fun a b => a.key ≠ b.key))
    (hp : PermIn 0 acc.toArray.size acc.toArray d') (hs : SortedIn (ltOf cmpO) 0 acc.toArray.size d') : d'.toList.length = acc.length ∧ Rise f wr d'.toList := by
  obtain ⟨hsz, _, hperm⟩ := hp
  have hp2 : d'.toList.Perm acc := by
    rw [← hsz] at hperm
    rw [extract_all] at hperm
    rw [show (acc.toArray.extract 0 d'.size).toList = acc from by rw [hsz]; simp] at hperm
    exact hperm
  have hlen : d'.toList.length = acc.length := hp2.length_eq
  refine ⟨hlen, ?_, fun o => hp2.mem_iff.trans (hm o)⟩
  have hnd' : d'.toList.Pairwise (fun a b => a.key ≠ b.key) := (hp2.pairwise_iff (fun {a b} h => Ne.symm h)).2 hnd
  rw [List.pairwise_iff_getElem] at hnd' ⊢
  intro i j hi hj hij
  have h1 := hnd' i j hi hj hij
  have hj' : j < d'.size := by simpa using hj
  have hi' : i < d'.size := by simpa using hi
  have h2 := hs i j (Nat.zero_le _) hij (by rw [← hsz]; exact hj')
  rw [cmp_lt, getElem!_pos d' i hi', getElem!_pos d' j hj'] at h2
  have h3 : ¬ d'[j].key < d'[i].key := by simpa using h2
  simp only [Array.getElem_toList] at h1 ⊢
  omega
/-- What was collected of a map so far. -/
def Got (f : Int → Option OpV) (wr : Bool) (left : Int → Bool) (acc : List OpV) : Prop :=
  acc.Pairwise (fun a b => a.key ≠ b.key) ∧ ∀ o, o ∈ acc ↔ (f o.key = some o ∧ o.wr = wr ∧ left o.key = false)
theorem Got.start (f : Int → Option OpV) (wr : Bool) : Got f wr (fun x => (f x).isSome) [] := by
  refine ⟨List.Pairwise.nil, fun o => ⟨fun h => (by cases h), fun ⟨h1, _, h3⟩ => ?_⟩⟩
  simp only [h1, Option.isSome_some] at h3; cases h3
theorem Got.yes {f : Int → Option OpV} {wr : Bool} {left : Int → Bool} {acc : List OpV} (h : Got f wr left acc) {u : OpV} (hl : left u.key = true) (hu : f u.key = some u) (hw : u.wr = wr) :
    Got f wr (fun y => left y && !decide (y = u.key)) (acc ++ [u]) := by
  obtain ⟨h1, h2⟩ := h
  refine ⟨List.pairwise_append.2 ⟨h1, by simp, fun a ha b hb => ?_⟩, fun o => ?_⟩
  · simp at hb; subst hb
    have := (h2 a).1 ha
    intro e
    rw [e, hl] at this
    cases this.2.2
  · rw [List.mem_append, h2 o]
    simp only [List.mem_singleton, Bool.and_eq_false_iff, Bool.not_eq_false', decide_eq_true_eq]
    constructor
    · rintro (⟨e1, e2, e3⟩ | rfl)
      · exact ⟨e1, e2, .inl e3⟩
      · exact ⟨hu, hw, .inr rfl⟩
    · rintro ⟨e1, e2, e3 | e3⟩
      · exact .inl ⟨e1, e2, e3⟩
      · rw [e3, hu] at e1; exact .inr (Option.some.inj e1).symm
theorem Got.no {f : Int → Option OpV} {wr : Bool} {left : Int → Bool} {acc : List OpV} (h : Got f wr left acc) {u : OpV} (hu : f u.key = some u) (hw : ¬ u.wr = wr) :
    Got f wr (fun y => left y && !decide (y = u.key)) acc := by
  obtain ⟨h1, h2⟩ := h
  refine ⟨h1, fun o => ?_⟩
  rw [h2 o]
  simp only [Bool.and_eq_false_iff, Bool.not_eq_false', decide_eq_true_eq]
  constructor
  · rintro ⟨e1, e2, e3⟩; exact ⟨e1, e2, .inl e3⟩
  · rintro ⟨e1, e2, e3 | e3⟩
    · exact ⟨e1, e2, e3⟩
    · rw [e3, hu] at e1
      cases e1; exact absurd e2 hw
end Go.Proofs.YtfancjmhdbaoeaaGreatDoor
