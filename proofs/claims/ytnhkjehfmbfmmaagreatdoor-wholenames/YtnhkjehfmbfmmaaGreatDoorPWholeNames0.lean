/- Walks and plain facts that the proof of the statement WholeNames uses, joined: Law SetM SetA SetN SetB Tab LevA LevB TabK TabW Slc OpZ ArgZ TxZ ArgT ArgC RelM SetC SetD SetE SetF SetG RelA RelC RelB RelD RelE RelF RelP RelG RelH RelI RelN RelJ RelK RelL RelO SetH SetI RelQ MapI TxnM TxnA TxnB TxnD TxnE. Conditions: each theorem's own. -/
import Derived.Test.YtnhkjehfmbfmmaaGreatDoorRows
import Derived.Test.YtnhkjehfmbfmmaaGreatDoorProg
import Derived.Test.YtnhkjehfmbfmmaaGreatDoorShelfS
import Derived.WalkKit
import Derived.ProofKit
import Derived.OpenShut
import Derived.Deep.DeepHandedRow
import Derived.Lib.LaidTab
import Derived.Laws.Bits64b
import Derived.WalkSpells
import Derived.WalkLawsBesides
import Derived.Lib.Hide
import Derived.Laws.Wrap64
import Derived.Laws.Bits128
import Derived.ChangeSame
import Derived.Stop.LaidErr
import Derived.WalkSmall
import Derived.Laws.AppendOwnNone
import Derived.Deep.Slices
import Derived.Deep.Strs
import Derived.Lib.SmallJoins
import Derived.Deep.QuietTactic
import Derived.BigQuiet
import Derived.StillTailTactics
import Derived.Laws.Tables
import Derived.Laws.CopyOwn
import Derived.Deep.RegionHeld3
import Derived.Deep.RegionWith
import Derived.Maps.RangeWalk
import Derived.Laws.StructEq
import Derived.OwnWalk
namespace Go.Proofs.YtnhkjehfmbfmmaaGreatDoor
set_option maxHeartbeats 32000000
set_option maxRecDepth 100000
set_option linter.unusedSimpArgs false
set_option linter.unusedVariables false
open Lib (hid)
section
open Go.ChangeShapes Go.WideShapes Go.ChangeAt Go.RowKit
theorem own : ownKnob Tryz.prog.godebug = none := by kernel_rfl
theorem laidOut : laidOutB Tryz.prog = true := by kernel_rfl
theorem trodAll_stays {H : Type} {enc : TypeId × Value → H} {W W' : World} (hb : Below W.heap.size W W') :
  ∀ (ts : List TypeId) (vs : List Value) (ds : List (DataW H)) (ps : List MemPlace), (∀ t ∈ ts, Tryz.prog.readableRec t = true ∧ t < Tryz.prog.types.size) →
   DataW.TrodAll enc Tryz.prog W 0 (fun _ => true) true ts vs ds ps → (∀ x ∈ ps, x.block < W.heap.size) →
   DataW.TrodAll enc Tryz.prog W' 0 (fun b => decide (b < W.heap.size)) true ts vs ds ps
 | [], vs, ds, ps, _, h, _ => by
  obtain ⟨rfl, rfl, rfl⟩ := trodAll_nil h
  exact trodAll_mk0
 | t :: ts, vs, ds, ps, hr, h, hlt => by
  obtain ⟨v, vs', d, ds', p, q, rfl, rfl, rfl, hd, hrest⟩ := trodAll_cons h
  have h1 := hr t List.mem_cons_self
  exact trodAll_cons_mk (Below.trod laidOut h1.1 h1.2 hd hb fun x hx => hlt x (List.mem_append_left _ hx))
   (trodAll_stays hb ts vs' ds' q (fun u hu => hr u (List.mem_cons_of_mem _ hu)) hrest fun x hx => hlt x (List.mem_append_right _ hx))
theorem law_post {H : Type} {enc : TypeId × Value → H} {s : ChangeSpec} {f : Func} {W W' : World} {args : Array Value} {ds gs : List (DataW H)} {before : List MemPlace}
  (hW : DataW.Whole enc Tryz.prog f.params.toList s.vars false W args.toList ds gs before) (hv : s.vars = [])
  (hr : ∀ t ∈ f.params.toList, Tryz.prog.readableRec t = true ∧ t < Tryz.prog.types.size) (hb : Below W.heap.size W W')
  (hres : f.resultTypes = #[4]) (hfn : (s.fn H (ds ++ [])).results = [.lit (.bool true)]) (hfa : (s.fn H (ds ++ [])).args = ds) (hfv : (s.fn H (ds ++ [])).vars = []) :
  s.post enc Tryz.prog f false true false false W args (.bool true) W' := by
 have hW' := hW
 obtain ⟨p, q, hA, hV, hpq, hfz, hnd⟩ := hW
 rw [hv] at hV
 obtain ⟨rfl, rfl⟩ := trodVars_none hV
 have hlt : ∀ x ∈ p, x.block < W.heap.size := fun x hx => by
  have := hW'.lt x (by rw [hpq]; exact List.mem_append_left _ hx)
  simpa using this
 refine ⟨ds, [], before, [], p, [], hW', ?_, ?_, ?_, hb.frame _, fun h => by cases h⟩
 ·rw [hfn, hres]
  exact trodAll_cons_mk (shut_bool Tryz.underlying4 _) trodAll_mk0
 ·rw [hfa]
  exact trodAll_stays hb _ _ _ _ hr hA hlt
 ·rw [hfv, hv]; exact rfl
end

section
def bt (n : Int) : Nat := if 0 ≤ n ∧ n < 64 then 2 ^ n.toNat else 0
def hasB (s : Nat) (n : Int) : Bool := decide (0 ≤ n ∧ n < 64) && s.testBit n.toNat
def IsSet (s : Nat) : Prop := s < 18446744073709551616
def withS (s : Nat) (n : Int) : Nat := s ||| bt n
def woS (s : Nat) (n : Int) : Nat := s ^^^ (s &&& bt n)
theorem isSet_iff (s : Nat) : IsSet s ↔ s < 2 ^ 64 := by unfold IsSet; omega
theorem isSet_of_bits {s : Nat} (h : ∀ i, 64 ≤ i → s.testBit i = false) : IsSet s := by
 rw [isSet_iff]; exact Nat.lt_pow_two_of_testBit s h
theorem IsSet.high {s : Nat} (h : IsSet s) {i : Nat} (hi : 64 ≤ i) : s.testBit i = false := by
 rw [isSet_iff] at h
 exact Nat.testBit_lt_two_pow (Nat.lt_of_lt_of_le h (Nat.pow_le_pow_right (by omega) hi))
theorem set_ext {s t : Nat} (hs : IsSet s) (ht : IsSet t) (h : ∀ i, i < 64 → s.testBit i = t.testBit i) : s = t := by
 apply Nat.eq_of_testBit_eq
 intro i
 by_cases hi : i < 64
 ·exact h i hi
 ·rw [hs.high (by omega), ht.high (by omega)]
theorem testBit_bt (n : Int) (i : Nat) : (bt n).testBit i = (decide (0 ≤ n ∧ n < 64) && decide (n.toNat = i)) := by
 unfold bt
 split
 ·rename_i h; rw [Nat.testBit_two_pow]; simp [h]
 ·rename_i h; simp [h]
theorem isSet_bt (n : Int) : IsSet (bt n) := by
 apply isSet_of_bits
 intro i hi
 rw [testBit_bt]
 by_cases h : 0 ≤ n ∧ n < 64
 ·simp [h]; omega
 ·simp [h]
theorem isSet_and {s t : Nat} (hs : IsSet s) : IsSet (s &&& t) := by
 apply isSet_of_bits
 intro i hi
 simp [hs.high hi]
theorem isSet_or {s t : Nat} (hs : IsSet s) (ht : IsSet t) : IsSet (s ||| t) := by
 apply isSet_of_bits
 intro i hi
 simp [hs.high hi, ht.high hi]
theorem isSet_xor {s t : Nat} (hs : IsSet s) (ht : IsSet t) : IsSet (s ^^^ t) := by
 apply isSet_of_bits
 intro i hi
 simp [hs.high hi, ht.high hi]
theorem isSet_withS {s : Nat} {n : Int} (hs : IsSet s) : IsSet (withS s n) := isSet_or hs (isSet_bt n)
theorem isSet_woS {s : Nat} {n : Int} (hs : IsSet s) : IsSet (woS s n) := isSet_xor hs (isSet_and hs)
theorem testBit_withS (s : Nat) (n : Int) (i : Nat) : (withS s n).testBit i = (s.testBit i || (decide (0 ≤ n ∧ n < 64) && decide (n.toNat = i))) := by
 simp only [withS, Nat.testBit_or, testBit_bt]
theorem testBit_woS (s : Nat) (n : Int) (i : Nat) : (woS s n).testBit i = (s.testBit i && !(decide (0 ≤ n ∧ n < 64) && decide (n.toNat = i))) := by
 simp only [woS, Nat.testBit_xor, Nat.testBit_and, testBit_bt]
 cases s.testBit i <;> simp
theorem and_bt_ne (s : Nat) (n : Int) : (s &&& bt n != 0) = hasB s n := by
 unfold hasB
 by_cases h : 0 ≤ n ∧ n < 64
 ·have e : s &&& bt n = if s.testBit n.toNat then 2 ^ n.toNat else 0 := by
   apply Nat.eq_of_testBit_eq
   intro i
   rw [Nat.testBit_and, testBit_bt]
   by_cases hb : s.testBit n.toNat = true
   ·simp only [h, hb, if_true, Nat.testBit_two_pow]
    by_cases e : n.toNat = i
    ·subst e; simp [hb]
    ·simp [e]
   ·simp only [h, hb]
    by_cases e : n.toNat = i
    ·subst e; simp [hb]
    ·simp [e]
  rw [e]
  cases hb : s.testBit n.toNat
  ·simp
  ·have : 0 < 2 ^ n.toNat := Nat.two_pow_pos _
   simp [h]
 ·have : bt n = 0 := by unfold bt; simp [h]
  rw [this]; simp [h]
theorem bits_has (s : Nat) (n : Int) (hs : IsSet s) : (Go.bits .and .u64 (s : Int) ((bt n : Nat) : Int) != 0) = hasB s n := by
 rw [Go.bits_and_u64_nat s (bt n) hs (isSet_bt n), ← and_bt_ne]
 rw [Bool.eq_iff_iff]; simp
theorem bits_with (s : Nat) (n : Int) (hs : IsSet s) : Go.bits .or .u64 (s : Int) ((bt n : Nat) : Int) = ((withS s n : Nat) : Int) :=
 Go.bits_or_u64_nat s (bt n) hs (isSet_bt n)
theorem bits_andNot_u64_nat (a b : Nat) (ha : a < 18446744073709551616) (hb : b < 18446744073709551616) :
  Go.bits .andNot .u64 (a : Int) (b : Int) = ((a ^^^ (a &&& b) : Nat) : Int) := by
 have hx : a ^^^ (a &&& b) < 2 ^ 64 := Nat.xor_lt_two_pow (by omega) (Nat.and_lt_two_pow _ (by omega))
 have h1 : (BitVec.ofInt 64 (a : Int)).toNat = a := by
  rw [BitVec.ofInt_natCast, BitVec.toNat_ofNat]; exact Nat.mod_eq_of_lt (by omega)
 have h2 : (BitVec.ofInt 64 (b : Int)).toNat = b := by
  rw [BitVec.ofInt_natCast, BitVec.toNat_ofNat]; exact Nat.mod_eq_of_lt (by omega)
 show IntKind.u64.wrap ((BitVec.ofInt 64 (a : Int) &&& ~~~ (BitVec.ofInt 64 (b : Int))).toNat : Int) = _
 have e : ∀ x y : BitVec 64, x &&& ~~~ y = x ^^^ (x &&& y) := by
  intro x y; ext i hi; simp; cases x[i] <;> cases y[i] <;> rfl
 rw [e, BitVec.toNat_xor, BitVec.toNat_and, h1, h2, IntKind.wrap_u64]
 omega
theorem bits_wo (s : Nat) (n : Int) (hs : IsSet s) : Go.bits .andNot .u64 (s : Int) ((bt n : Nat) : Int) = ((woS s n : Nat) : Int) :=
 bits_andNot_u64_nat s (bt n) hs (isSet_bt n)
theorem wrap_two_pow (n : Int) (h0 : 0 ≤ n) (h1 : n < 64) : IntKind.u64.wrap (2 ^ n.toNat) = ((bt n : Nat) : Int) := by
 have h := isSet_bt n
 unfold bt IsSet at *
 rw [if_pos ⟨h0, h1⟩] at *
 rw [IntKind.wrap_u64]
 have : ((2 : Int) ^ n.toNat) = ((2 ^ n.toNat : Nat) : Int) := by simp
 rw [this]; generalize 2 ^ n.toNat = k at *; omega
theorem bt_out (n : Int) (h : ¬ (0 ≤ n ∧ n < 64)) : (0 : Int) = ((bt n : Nat) : Int) := by unfold bt; simp [h]
end

section
open Go.RowKit
theorem ret_i {k : IntKind} {a b : Int} (h : a = b) : Ending.returned (.int k a) = .returned (.int k b) := by rw [h]
theorem ret_b {a b : Bool} (h : a = b) : Ending.returned (.bool a) = .returned (.bool b) := by rw [h]
theorem bit_in (n : Int) (w : World) (h0 : 0 ≤ n) (h1 : n < 64) :
  Calls Tryz.prog 146 #[.int .i64 n] w fun e w' => e = .returned (.int .u64 ((bt n : Nat) : Int)) ∧ w = w' := by
 go_enter Tryz.func146, Tryz.ntmps146
 go_wp2
 go_ret
 exact ⟨ret_i (wrap_two_pow n h0 h1), rfl⟩
theorem bit_out (n : Int) (w : World) (h : ¬ (0 ≤ n ∧ n < 64)) :
  Calls Tryz.prog 146 #[.int .i64 n] w fun e w' => e = .returned (.int .u64 ((bt n : Nat) : Int)) ∧ w = w' := by
 have e := bt_out n h
 have H := hid e; clear e
 by_cases h0 : n < 0
 all_goals
  go_enter Tryz.func146, Tryz.ntmps146
  go_wp2
  go_ret
  exact ⟨ret_i H.out, rfl⟩
theorem bit_any (n : Int) (w : World) :
  Calls Tryz.prog 146 #[.int .i64 n] w fun e w' => e = .returned (.int .u64 ((bt n : Nat) : Int)) ∧ w = w' := by
 by_cases h : 0 ≤ n ∧ n < 64
 ·exact bit_in n w h.1 h.2
 ·exact bit_out n w h
theorem has_any (s : Nat) (n : Int) (w : World) (hs : IsSet s) :
  Calls Tryz.prog 173 #[.int .u64 (s : Int), .int .i64 n] w fun e w' => e = .returned (.bool (hasB s n)) ∧ w = w' := by
 go_enter Tryz.func173, Tryz.ntmps173
 go_wp2_with (go_at_call 146; refine (bit_any _ _).mono ?_; rintro e w' ⟨rfl, rfl⟩)
 go_ret
 exact ⟨ret_b (bits_has s n hs), rfl⟩
theorem with_any (s : Nat) (n : Int) (w : World) (hs : IsSet s) :
  Calls Tryz.prog 106 #[.int .u64 (s : Int), .int .i64 n] w fun e w' => e = .returned (.int .u64 ((withS s n : Nat) : Int)) ∧ w = w' := by
 go_enter Tryz.func106, Tryz.ntmps106
 go_wp2_with (go_at_call 146; refine (bit_any _ _).mono ?_; rintro e w' ⟨rfl, rfl⟩)
 go_ret
 exact ⟨ret_i (bits_with s n hs), rfl⟩
theorem wo_any (s : Nat) (n : Int) (w : World) (hs : IsSet s) :
  Calls Tryz.prog 233 #[.int .u64 (s : Int), .int .i64 n] w fun e w' => e = .returned (.int .u64 ((woS s n : Nat) : Int)) ∧ w = w' := by
 go_enter Tryz.func233, Tryz.ntmps233
 go_wp2_with (go_at_call 146; refine (bit_any _ _).mono ?_; rintro e w' ⟨rfl, rfl⟩)
 go_ret
 exact ⟨ret_i (bits_wo s n hs), rfl⟩
end

section
def lstTo (s k : Nat) : List Nat := (List.range k).filter fun i => s.testBit i
def lst (s : Nat) : List Nat := lstTo s 64
def fst (s : Nat) : Nat := (lst s).headD 64
theorem lstTo_len (s k : Nat) : (lstTo s k).length ≤ k := by
 unfold lstTo
 have := List.length_filter_le (fun i => s.testBit i) (List.range k)
 simpa using this
theorem mem_lst {s i : Nat} : i ∈ lst s ↔ i < 64 ∧ s.testBit i = true := by simp [lst, lstTo]
theorem lst_nodup (s : Nat) : (lst s).Nodup := List.Pairwise.filter _ List.nodup_range
theorem lst_sorted (s : Nat) : (lst s).Pairwise (· < ·) := List.Pairwise.filter _ List.pairwise_lt_range
theorem lst_zero : lst 0 = [] := by decide
theorem lst_nil {s : Nat} (hs : IsSet s) (h : lst s = []) : s = 0 := by
 apply set_ext hs (by unfold IsSet; omega)
 intro i hi
 cases hb : s.testBit i
 ·simp
 ·have : i ∈ lst s := mem_lst.2 ⟨hi, hb⟩
  rw [h] at this; cases this
theorem lst_woS (s : Nat) (n : Nat) (hn : n < 64) : lst (woS s (n : Int)) = (lst s).filter (fun i => i != n) := by
 unfold lst lstTo
 rw [List.filter_filter]
 apply List.filter_congr
 intro i _
 rw [testBit_woS]
 have : (0 ≤ (n : Int) ∧ (n : Int) < 64) := by omega
 simp only [this, and_self, decide_true, Bool.true_and, Int.toNat_natCast, bne]
 rw [Bool.and_comm]
 congr 2
 rw [Bool.eq_iff_iff]; simp; exact ⟨fun h => h.symm, fun h => h.symm⟩
theorem lst_cons {s : Nat} (h : lst s ≠ []) : lst s = fst s :: lst (woS s (fst s : Int)) := by
 unfold fst
 match e : lst s with
 | [] => exact absurd e h
 | a :: t =>
  have ha : a < 64 := (mem_lst.1 (e ▸ List.mem_cons_self : a ∈ lst s)).1
  simp only [List.headD_cons]
  rw [lst_woS s a ha, e]
  have hn := e ▸ lst_nodup s
  rw [List.nodup_cons] at hn
  rw [List.filter_cons]
  simp
  symm
  rw [List.filter_eq_self]
  intro b hb
  simp
  rintro rfl
  exact hn.1 hb
theorem fst_mem {s : Nat} (h : lst s ≠ []) : fst s ∈ lst s := by
 rw [lst_cons h]; exact List.mem_cons_self
theorem fst_lt {s : Nat} (h : lst s ≠ []) : fst s < 64 := (mem_lst.1 (fst_mem h)).1
theorem fst_le (s : Nat) : fst s ≤ 64 := by
 by_cases h : lst s = []
 ·simp [fst, h]
 ·exact Nat.le_of_lt (fst_lt h)
theorem fst_least {s i : Nat} (h : i < fst s) : s.testBit i = false := by
 cases hb : s.testBit i
 ·rfl
 ·have hi : i < 64 := Nat.lt_of_lt_of_le h (fst_le s)
  have hm : i ∈ lst s := mem_lst.2 ⟨hi, hb⟩
  have hne : lst s ≠ [] := by intro e; rw [e] at hm; cases hm
  have hs := lst_sorted s
  rw [lst_cons hne] at hm hs
  rcases List.mem_cons.1 hm with e | e
  ·omega
  ·have := (List.pairwise_cons.1 hs).1 i e
   omega
theorem lst_ne {s : Nat} (hs : IsSet s) (h : 0 < s) : lst s ≠ [] := by
 intro e; have := lst_nil hs e; omega
/-! ### The lowest bit, as the library finds it -/
theorem low_div {s k : Nat} (hlow : ∀ i, i < k → s.testBit i = false) : s % 2 ^ k = 0 := by
 apply Nat.eq_of_testBit_eq
 intro i
 rw [Nat.testBit_mod_two_pow]
 by_cases h : i < k
 ·simp [hlow i h]
 ·simp [h]
theorem and_neg {s k : Nat} (hs : s < 2 ^ 64) (hk : s.testBit k = true) (hlow : ∀ i, i < k → s.testBit i = false) (hk64 : k < 64) : s &&& (2 ^ 64 - s) = 2 ^ k := by
 have h0 : 0 < s := by
  rcases Nat.eq_zero_or_pos s with h | h
  ·subst h; simp at hk
  ·exact h
 have hd := low_div hlow
 obtain ⟨c, hc⟩ : ∃ c, s = 2 ^ k * c := ⟨s / 2 ^ k, (Nat.mul_div_cancel' (Nat.dvd_of_mod_eq_zero hd)).symm⟩
 have hp : 0 < 2 ^ k := Nat.two_pow_pos k
 have codd : c % 2 = 1 := by
  have : s.testBit k = c.testBit 0 := by rw [hc, Nat.testBit_two_pow_mul]; simp
  rw [this] at hk
  simpa [Nat.testBit_zero] using hk
 obtain ⟨d, rfl⟩ : ∃ d, c = 2 * d + 1 := ⟨c / 2, by omega⟩
 have e1 : s - 1 = 2 ^ k * (2 * d) + (2 ^ k - 1) := by
  rw [hc, Nat.mul_add, Nat.mul_one]
  omega
 have e2 : 2 ^ 64 - s = 2 ^ 64 - ((s - 1) + 1) := by omega
 rw [e2]
 apply Nat.eq_of_testBit_eq
 intro i
 rw [Nat.testBit_and, Nat.testBit_two_pow_sub_succ (by omega), Nat.testBit_two_pow]
 rw [e1, Nat.testBit_two_pow_mul_add _ (by omega)]
 by_cases hik : i < k
 ·simp [hlow i hik]; omega
 ·rw [if_neg hik]
  have : s.testBit i = (2 * d + 1).testBit (i - k) := by rw [hc, Nat.testBit_two_pow_mul]; simp; omega
  rw [this]
  by_cases e : i = k
  ·subst e
   simp [Nat.testBit_zero, hk64]
  ·obtain ⟨j, hj⟩ : ∃ j, i - k = j + 1 := ⟨i - k - 1, by omega⟩
   rw [hj, Nat.testBit_succ, Nat.testBit_succ]
   have q1 : (2 * d + 1) / 2 = d := by omega
   have q2 : 2 * d / 2 = d := by omega
   rw [q1, q2]
   have : ¬ k = i := fun h => e h.symm
   simp [this]
   exact fun h _ => h
def deB : List Int := [0, 1, 56, 2, 57, 49, 28, 3, 61, 58, 42, 50, 38, 29, 17, 4, 62, 47, 59, 36, 45, 43, 51, 22, 53, 39, 33, 30, 24, 18, 12, 5, 63, 55, 48, 27, 60, 41, 37, 16, 46, 35, 44, 21, 52, 32, 23, 11, 54, 26, 40, 15, 34, 20, 31, 10, 25, 14, 19, 9, 13, 8, 7, 6]
def deIdx (k : Nat) : Nat := 2 ^ k * 285870213051353865 % 18446744073709551616 / 288230376151711744
theorem deB_at : ∀ k : Fin 64, deIdx k.val < 64 ∧ deB.getD (deIdx k.val) 0 = (k.val : Int) := by decide +kernel
theorem bits_neg (s : Nat) (hs : IsSet s) (h0 : 0 < s) : Go.bits .and .u64 (s : Int) (IntKind.u64.wrap (-(s : Int))) = ((2 ^ fst s : Nat) : Int) := by
 have hne := lst_ne hs h0
 have hm := fst_mem hne
 have hb := (mem_lst.1 hm).2
 have e : IntKind.u64.wrap (-(s : Int)) = ((18446744073709551616 - s : Nat) : Int) := by
  unfold IsSet at hs
  rw [IntKind.wrap_u64]; omega
 rw [e, Go.bits_and_u64_nat s _ hs (by omega)]
 have := and_neg (s := s) (k := fst s) (by unfold IsSet at hs; omega) hb (fun i hi => fst_least hi) (fst_lt hne)
 rw [show (18446744073709551616 : Nat) = 2 ^ 64 from by decide, this]
theorem de_idx (k : Nat) : IntKind.u64.wrap (((2 ^ k : Nat) : Int) * 285870213051353865) / 288230376151711744 = ((deIdx k : Nat) : Int) := by
 rw [IntKind.wrap_u64]; unfold deIdx
 generalize 2 ^ k = p
 omega
/-! ### How many bits, as the library counts them -/
def f1 (b : Nat) : Nat := (b / 2 &&& 0x55) + (b &&& 0x55)
def f2 (b : Nat) : Nat := (b / 4 &&& 0x33) + (b &&& 0x33)
def f3 (b : Nat) : Nat := (b / 16 + b) &&& 0x0f
def ofB : List Nat → Nat
 | [] => 0
 | b :: l => 256 * ofB l + b
def mk (c : Nat) : Nat → Nat
 | 0 => 0
 | k + 1 => 256 * mk c k + c
theorem and_split (a b m c : Nat) (hb : b < 256) (hc : c < 256) : (256 * a + b) &&& (256 * m + c) = 256 * (a &&& m) + (b &&& c) := by
 have hbc : b &&& c < 256 := Nat.and_lt_two_pow (n := 8) _ hc
 apply Nat.eq_of_testBit_eq
 intro i
 rw [Nat.testBit_and, show (256 : Nat) = 2 ^ 8 from rfl, Nat.testBit_two_pow_mul_add _ hb, Nat.testBit_two_pow_mul_add _ hc, Nat.testBit_two_pow_mul_add _ hbc]
 split <;> simp
theorem f1_low : ∀ b : Fin 256, ∀ r : Fin 2, (128 * r.val + b.val / 2) &&& 0x55 = (b.val / 2 &&& 0x55) := by decide +kernel
theorem f2_low : ∀ b : Fin 256, ∀ r : Fin 4, (64 * r.val + b.val / 4) &&& 0x33 = (b.val / 4 &&& 0x33) := by decide +kernel
theorem f3_low : ∀ b : Fin 256, ∀ r : Fin 5, b.val % 16 ≤ 4 → b.val / 16 ≤ 4 → (16 * r.val + b.val / 16 + b.val) &&& 0x0f = f3 b.val := by decide +kernel
theorem f1_lt : ∀ b : Fin 256, f1 b.val < 256 := by decide +kernel
theorem f2_lt : ∀ b : Fin 256, f2 b.val < 256 := by decide +kernel
theorem f21_ok : ∀ b : Fin 256, f2 (f1 b.val) % 16 ≤ 4 ∧ f2 (f1 b.val) / 16 ≤ 4 ∧ f2 (f1 b.val) < 256 := by decide +kernel
theorem pop_ok : ∀ b : Fin 256, f3 (f2 (f1 b.val)) = (lstTo b.val 8).length := by decide +kernel
theorem st1_ofB : ∀ l : List Nat, (∀ b ∈ l, b < 256) → (ofB l / 2 &&& mk 0x55 l.length) + (ofB l &&& mk 0x55 l.length) = ofB (l.map f1)
 | [], _ => rfl
 | b :: l, h => by
  have hb := h b List.mem_cons_self
  have ih := st1_ofB l fun x hx => h x (List.mem_cons_of_mem _ hx)
  simp only [ofB, mk, List.length_cons, List.map_cons]
  have e : (256 * ofB l + b) / 2 = 256 * (ofB l / 2) + (128 * (ofB l % 2) + b / 2) := by omega
  have hlow := f1_low ⟨b, hb⟩ ⟨ofB l % 2, by omega⟩
  simp only at hlow
  rw [e, and_split _ _ _ _ (by omega) (by omega), and_split _ _ _ _ hb (by omega), ← ih, hlow, f1]
  omega
theorem st2_ofB : ∀ l : List Nat, (∀ b ∈ l, b < 256) → (ofB l / 4 &&& mk 0x33 l.length) + (ofB l &&& mk 0x33 l.length) = ofB (l.map f2)
 | [], _ => rfl
 | b :: l, h => by
  have hb := h b List.mem_cons_self
  have ih := st2_ofB l fun x hx => h x (List.mem_cons_of_mem _ hx)
  simp only [ofB, mk, List.length_cons, List.map_cons]
  have e : (256 * ofB l + b) / 4 = 256 * (ofB l / 4) + (64 * (ofB l % 4) + b / 4) := by omega
  have hlow := f2_low ⟨b, hb⟩ ⟨ofB l % 4, by omega⟩
  simp only at hlow
  rw [e, and_split _ _ _ _ (by omega) (by omega), and_split _ _ _ _ hb (by omega), ← ih, hlow, f2]
  omega
theorem st3_ofB : ∀ l : List Nat, (∀ b ∈ l, b % 16 ≤ 4 ∧ b / 16 ≤ 4 ∧ b < 256) → (ofB l / 16 + ofB l) &&& mk 0x0f l.length = ofB (l.map f3)
 | [], _ => rfl
 | b :: l, h => by
  obtain ⟨h1, h2, hb⟩ := h b List.mem_cons_self
  have ih := st3_ofB l fun x hx => h x (List.mem_cons_of_mem _ hx)
  have hr : ofB l % 16 ≤ 4 := by
   cases l with
   | nil => simp [ofB]
   | cons c l =>
    have := (h c (List.mem_cons_of_mem _ List.mem_cons_self)).1
    simp only [ofB]; omega
  simp only [ofB, mk, List.length_cons, List.map_cons]
  have e : (256 * ofB l + b) / 16 + (256 * ofB l + b) = 256 * (ofB l / 16 + ofB l) + (16 * (ofB l % 16) + b / 16 + b) := by omega
  have hlow := f3_low ⟨b, hb⟩ ⟨ofB l % 16, by omega⟩ h1 h2
  simp only at hlow
  rw [e, and_split _ _ _ _ (by omega) (by omega), ← ih, hlow]
theorem lstTo_add (s j k : Nat) : (lstTo s (j + k)).length = (lstTo s j).length + (lstTo (s / 2 ^ j) k).length := by
 unfold lstTo
 rw [List.range_add, List.filter_append, List.length_append, List.filter_map, List.length_map]
 congr 2
 apply List.filter_congr
 intro i _
 simp [Function.comp, Nat.testBit_div_two_pow, Nat.add_comm]
theorem lstTo_low (a b k : Nat) (hb : b < 2 ^ k) : lstTo (2 ^ k * a + b) k = lstTo b k := by
 unfold lstTo
 apply List.filter_congr
 intro i hi
 have : i < k := by simpa using hi
 rw [Nat.testBit_two_pow_mul_add _ hb, if_pos this]
def sumB : List Nat → Nat
 | [] => 0
 | b :: l => b + sumB l
theorem cnt_ofB : ∀ l : List Nat, (∀ b ∈ l, b < 256) → (lstTo (ofB l) (8 * l.length)).length = sumB (l.map fun b => f3 (f2 (f1 b)))
 | [], _ => rfl
 | b :: l, h => by
  have hb := h b List.mem_cons_self
  have ih := cnt_ofB l fun x hx => h x (List.mem_cons_of_mem _ hx)
  have hp := pop_ok ⟨b, hb⟩
  simp only at hp
  simp only [ofB, List.length_cons, List.map_cons, sumB]
  rw [show 8 * (l.length + 1) = 8 + 8 * l.length by omega, lstTo_add, show (256 : Nat) = 2 ^ 8 from rfl, lstTo_low _ _ _ hb, hp]
  have : (2 ^ 8 * ofB l + b) / 2 ^ 8 = ofB l := by omega
  rw [this, ih]
theorem bytes_of (s : Nat) (hs : IsSet s) : ∃ l : List Nat, l.length = 8 ∧ (∀ b ∈ l, b < 256) ∧ s = ofB l := by
 unfold IsSet at hs
 refine ⟨[s % 256, s / 256 % 256, s / 65536 % 256, s / 16777216 % 256, s / 4294967296 % 256, s / 1099511627776 % 256, s / 281474976710656 % 256, s / 72057594037927936], rfl, ?_, ?_⟩
 ·intro b hb
  simp only [List.mem_cons, List.not_mem_nil, or_false] at hb
  rcases hb with h | h | h | h | h | h | h | h <;> omega
 ·simp only [ofB]; omega
theorem ofB_lt : ∀ l : List Nat, (∀ b ∈ l, b < 256) → ofB l < 256 ^ l.length
 | [], _ => by simp [ofB]
 | b :: l, h => by
  have hb := h b List.mem_cons_self
  have ih := ofB_lt l fun x hx => h x (List.mem_cons_of_mem _ hx)
  simp only [ofB, List.length_cons, Nat.pow_succ]
  omega
/-! ### The library's steps, as the walk writes them -/
def sA (x : Int) : Int := IntKind.u64.wrap (Go.bits .and .u64 (x / 2) 6148914691236517205 + Go.bits .and .u64 x 6148914691236517205)
def sB (x : Int) : Int := IntKind.u64.wrap (Go.bits .and .u64 (x / 4) 3689348814741910323 + Go.bits .and .u64 x 3689348814741910323)
def sC (x : Int) : Int := Go.bits .and .u64 (IntKind.u64.wrap (x / 16 + x)) 1085102592571150095
def sD (x : Int) : Int := IntKind.u64.wrap (x + x / 256)
def sE (x : Int) : Int := IntKind.u64.wrap (x + x / 65536)
def sF (x : Int) : Int := IntKind.u64.wrap (x + x / 4294967296)
theorem sA_nat (x : Nat) (l : List Nat) (hl : l.length = 8) (hb : ∀ b ∈ l, b < 256) (hx : x = ofB l) : sA (x : Int) = ((ofB (l.map f1) : Nat) : Int) := by
 have h := st1_ofB l hb
 have hlt := ofB_lt l hb
 have hlt2 := ofB_lt (l.map f1) (by
  intro b hbm
  obtain ⟨c, hc, rfl⟩ := List.mem_map.1 hbm
  exact f1_lt ⟨c, hb c hc⟩)
 simp only [List.length_map] at hlt2
 rw [hl] at h hlt hlt2
 rw [← hx] at h hlt
 have e : mk 0x55 8 = 6148914691236517205 := by decide
 rw [e] at h
 unfold sA
 rw [show ((x : Int) / 2) = ((x / 2 : Nat) : Int) from by omega, show (6148914691236517205 : Int) = ((6148914691236517205 : Nat) : Int) from rfl]
 rw [Go.bits_and_u64_nat (x / 2) _ (by omega) (by omega), Go.bits_and_u64_nat x _ (by omega) (by omega), IntKind.wrap_u64, ← h]
 omega
theorem sB_nat (x : Nat) (l : List Nat) (hl : l.length = 8) (hb : ∀ b ∈ l, b < 256) (hx : x = ofB l) : sB (x : Int) = ((ofB (l.map f2) : Nat) : Int) := by
 have h := st2_ofB l hb
 have hlt := ofB_lt l hb
 have hlt2 := ofB_lt (l.map f2) (by
  intro b hbm
  obtain ⟨c, hc, rfl⟩ := List.mem_map.1 hbm
  exact f2_lt ⟨c, hb c hc⟩)
 simp only [List.length_map] at hlt2
 rw [hl] at h hlt hlt2
 rw [← hx] at h hlt
 have e : mk 0x33 8 = 3689348814741910323 := by decide
 rw [e] at h
 unfold sB
 rw [show ((x : Int) / 4) = ((x / 4 : Nat) : Int) from by omega, show (3689348814741910323 : Int) = ((3689348814741910323 : Nat) : Int) from rfl]
 rw [Go.bits_and_u64_nat (x / 4) _ (by omega) (by omega), Go.bits_and_u64_nat x _ (by omega) (by omega), IntKind.wrap_u64, ← h]
 omega
theorem sC_nat (x : Nat) (l : List Nat) (hl : l.length = 8) (hb : ∀ b ∈ l, b % 16 ≤ 4 ∧ b / 16 ≤ 4 ∧ b < 256) (hx : x = ofB l) : sC (x : Int) = ((ofB (l.map f3) : Nat) : Int) := by
 have h := st3_ofB l hb
 have hlt : ofB l < 4991460930710486580 := by
  match l, hl with
  | [a, b, c, d, e, f, g, i], _ =>
   have := hb i (by simp)
   have := hb a (by simp)
   have := hb b (by simp)
   have := hb c (by simp)
   have := hb d (by simp)
   have := hb e (by simp)
   have := hb f (by simp)
   have := hb g (by simp)
   simp only [ofB]
   omega
 rw [hl] at h
 rw [← hx] at h hlt
 have e : mk 0x0f 8 = 1085102592571150095 := by decide
 rw [e] at h
 unfold sC
 have e2 : IntKind.u64.wrap ((x : Int) / 16 + (x : Int)) = ((x / 16 + x : Nat) : Int) := by rw [IntKind.wrap_u64]; omega
 rw [e2, show (1085102592571150095 : Int) = ((1085102592571150095 : Nat) : Int) from rfl]
 rw [Go.bits_and_u64_nat _ _ (by omega) (by omega), h]
theorem f3_le : ∀ b : Fin 256, f3 (f2 (f1 b.val)) ≤ 8 := by decide +kernel
theorem sD_step (x q p y : Nat) (hx : x = 256 * q + p) (hp : p < 256) (hb : x + q < 18446744073709551616) (hy : y = x + q) : sD (x : Int) = (y : Int) := by
 unfold sD; rw [IntKind.wrap_u64, show (x : Int) / 256 = (q : Int) from by omega, Int.emod_eq_of_lt (by omega) (by omega)]; omega
theorem sE_step (x q p y : Nat) (hx : x = 65536 * q + p) (hp : p < 65536) (hb : x + q < 18446744073709551616) (hy : y = x + q) : sE (x : Int) = (y : Int) := by
 unfold sE; rw [IntKind.wrap_u64, show (x : Int) / 65536 = (q : Int) from by omega, Int.emod_eq_of_lt (by omega) (by omega)]; omega
theorem sF_step (x q p y : Nat) (hx : x = 4294967296 * q + p) (hp : p < 4294967296) (hb : x + q < 18446744073709551616) (hy : y = x + q) : sF (x : Int) = (y : Int) := by
 unfold sF; rw [IntKind.wrap_u64, show (x : Int) / 4294967296 = (q : Int) from by omega, Int.emod_eq_of_lt (by omega) (by omega)]; omega
theorem tail_nat (p0 p1 p2 p3 p4 p5 p6 p7 : Nat) (h0 : p0 ≤ 8) (h1 : p1 ≤ 8) (h2 : p2 ≤ 8) (h3 : p3 ≤ 8) (h4 : p4 ≤ 8) (h5 : p5 ≤ 8) (h6 : p6 ≤ 8) (h7 : p7 ≤ 8) (x n : Nat)
  (hx : x = p0 + 256 * p1 + 65536 * p2 + 16777216 * p3 + 4294967296 * p4 + 1099511627776 * p5 + 281474976710656 * p6 + 72057594037927936 * p7) (hn : n = p0 + p1 + p2 + p3 + p4 + p5 + p6 + p7) :
  ∃ z : Nat, sF (sE (sD (x : Int))) = ((256 * z + n : Nat) : Int) ∧ 256 * z + n < 9223372036854775808 := by
 obtain ⟨y, hy⟩ : ∃ y : Nat, y = (p0 + p1) + 256 * (p1 + p2) + 65536 * (p2 + p3) + 16777216 * (p3 + p4) + 4294967296 * (p4 + p5) + 1099511627776 * (p5 + p6) + 281474976710656 * (p6 + p7) + 72057594037927936 * p7 := ⟨_, rfl⟩
 obtain ⟨v, hv⟩ : ∃ v : Nat, v = (p0 + p1 + p2 + p3) + 256 * (p1 + p2 + p3 + p4) + 65536 * (p2 + p3 + p4 + p5) + 16777216 * (p3 + p4 + p5 + p6) + 4294967296 * (p4 + p5 + p6 + p7) + 1099511627776 * (p5 + p6 + p7) + 281474976710656 * (p6 + p7) + 72057594037927936 * p7 := ⟨_, rfl⟩
 have e1 : sD (x : Int) = (y : Int) := by
  apply sD_step _ (p1 + 256 * p2 + 65536 * p3 + 16777216 * p4 + 4294967296 * p5 + 1099511627776 * p6 + 281474976710656 * p7) p0 <;> (clear hv hn; subst hx hy; omega)
 have e2 : sE (y : Int) = (v : Int) := by
  apply sE_step _ ((p2 + p3) + 256 * (p3 + p4) + 65536 * (p4 + p5) + 16777216 * (p5 + p6) + 4294967296 * (p6 + p7) + 1099511627776 * p7) ((p0 + p1) + 256 * (p1 + p2)) <;> (clear hx hn e1; subst hv hy; omega)
 rw [e1, e2]
 clear e1 e2 hx hy
 refine ⟨(p1 + p2 + p3 + p4) + 256 * (p2 + p3 + p4 + p5) + 65536 * (p3 + p4 + p5 + p6) + 16777216 * (p4 + p5 + p6 + p7) + 4294967296 * (p5 + p6 + p7) + 1099511627776 * (p6 + p7) + 281474976710656 * p7 + (p5 + p6 + p7) + 256 * (p6 + p7) + 65536 * p7, ?_, by clear hv; subst hn; omega⟩
 apply sF_step _ ((p4 + p5 + p6 + p7) + 256 * (p5 + p6 + p7) + 65536 * (p6 + p7) + 16777216 * p7) ((p0 + p1 + p2 + p3) + 256 * (p1 + p2 + p3 + p4) + 65536 * (p2 + p3 + p4 + p5) + 16777216 * (p3 + p4 + p5 + p6)) <;> (subst hv hn; omega)
theorem and127 (z : Nat) (n : Nat) (hn : n ≤ 64) (h : 256 * z + n < 9223372036854775808) : Go.bits .and .i64 ((256 * z + n : Nat) : Int) 127 = (n : Int) := by
 show IntKind.i64.wrap ((BitVec.ofInt 64 ((256 * z + n : Nat) : Int) &&& BitVec.ofInt 64 127).toNat : Int) = _
 have h1 : (BitVec.ofInt 64 ((256 * z + n : Nat) : Int)).toNat = 256 * z + n := by
  rw [BitVec.ofInt_natCast, BitVec.toNat_ofNat]; exact Nat.mod_eq_of_lt (by omega)
 have h2 : (BitVec.ofInt 64 (127 : Int)).toNat = 127 := by decide
 have e : (256 * z + n) &&& 127 = n := by
  have := Nat.and_two_pow_sub_one_eq_mod (256 * z + n) 7
  rw [show (2 : Nat) ^ 7 - 1 = 127 from rfl] at this
  rw [this]; omega
 rw [BitVec.toNat_and, h1, h2, e]
 simp [IntKind.wrap, IntKind.bits, IntKind.signed]; omega
theorem ones_eq (s : Nat) (hs : IsSet s) : ∃ m : Nat, sF (sE (sD (sC (sB (sA (s : Int)))))) = (m : Int) ∧ m < 9223372036854775808 ∧ Go.bits .and .i64 (m : Int) 127 = (((lst s).length : Nat) : Int) := by
 obtain ⟨l, hl, hb, rfl⟩ := bytes_of s hs
 have hb1 : ∀ b ∈ l.map f1, b < 256 := by
  intro b hbm
  obtain ⟨c, hc, rfl⟩ := List.mem_map.1 hbm
  exact f1_lt ⟨c, hb c hc⟩
 have hb2 : ∀ b ∈ (l.map f1).map f2, b % 16 ≤ 4 ∧ b / 16 ≤ 4 ∧ b < 256 := by
  intro b hbm
  obtain ⟨c1, hc1, rfl⟩ := List.mem_map.1 hbm
  obtain ⟨c, hc, rfl⟩ := List.mem_map.1 hc1
  exact f21_ok ⟨c, hb c hc⟩
 rw [sA_nat _ l hl hb rfl, sB_nat _ _ (by simpa using hl) hb1 rfl, sC_nat _ _ (by simpa using hl) hb2 rfl]
 have hc := cnt_ofB l hb
 rw [hl] at hc
 have hlen : (lst (ofB l)).length = sumB (l.map fun b => f3 (f2 (f1 b))) := hc
 have hle : (lst (ofB l)).length ≤ 64 := lstTo_len _ _
 rw [hlen] at hle ⊢
 rw [List.map_map, List.map_map]
 match l, hl, hb with
 | [a, b, c, d, e, f, g, i], _, hb =>
  have q := fun x hx => f3_le ⟨x, hb x hx⟩
  simp only at q
  obtain ⟨z, hz1, hz2⟩ := tail_nat _ _ _ _ _ _ _ _ (q a (by simp)) (q b (by simp)) (q c (by simp)) (q d (by simp)) (q e (by simp)) (q f (by simp)) (q g (by simp)) (q i (by simp)) (ofB ([a, b, c, d, e, f, g, i].map (f3 ∘ f2 ∘ f1))) (sumB ([a, b, c, d, e, f, g, i].map fun b => f3 (f2 (f1 b)))) (by simp only [List.map_cons, List.map_nil, ofB, Function.comp]; omega) (by simp only [List.map_cons, List.map_nil, sumB]; omega)
  exact ⟨_, hz1, hz2, and127 _ _ hle hz2⟩
end

section
open Go.RowKit
theorem wrap64_nat (m : Nat) (h : m < 9223372036854775808) : wrap64 (m : Int) = (m : Int) := by unfold wrap64; omega
theorem ones_any (s : Nat) (w : World) (hs : IsSet s) :
  Calls Tryz.prog 283 #[.int .u64 (s : Int)] w fun e w' => e = .returned (.int .i64 (((lst s).length : Nat) : Int)) ∧ w = w' := by
 have H : Hid (IsSet s) := hid hs
 clear hs
 go_enter Tryz.func283, Tryz.ntmps283
 go_wp2
 go_ret
 refine ⟨?_, rfl⟩
 obtain ⟨m, h1, h2, h3⟩ := ones_eq s H.out
 refine ret_i ?_
 have e : Go.bits .and .i64 (wrap64 (sF (sE (sD (sC (sB (sA (s : Int)))))))) 127 = (((lst s).length : Nat) : Int) := by rw [h1, wrap64_nat m h2, h3]
 exact e
theorem scount_any (s : Nat) (w : World) (hs : IsSet s) :
  Calls Tryz.prog 261 #[.int .u64 (s : Int)] w fun e w' => e = .returned (.int .i64 (((lst s).length : Nat) : Int)) ∧ w = w' := by
 go_enter Tryz.func261, Tryz.ntmps261
 go_wp2_with (go_at_call 283; refine (ones_any _ _ hs).mono ?_; rintro e w' ⟨rfl, rfl⟩)
 go_ret
 exact ⟨rfl, rfl⟩
def Tab (w : World) : Prop := ∀ i, i < 64 → w.cell? ⟨3, i, none⟩ = some (.int .u8 (deB.getD i 0))
theorem Tab.pos {w : World} (h : Tab w) : 3 < w.heap.size := by
 have := h 0 (by omega)
 by_cases h0 : 3 < w.heap.size
 ·exact h0
 ·simp [World.cell?, Array.getElem?_eq_none (Nat.le_of_not_lt h0)] at this
theorem Tab.below {w w' : World} {B : Nat} (h : Tab w) (hb : Below B w w') (hB : 3 < B) : Tab w' :=
 fun i hi => (hb.cell (p := ⟨3, i, none⟩) hB).trans (h i hi)
theorem ntz_zero (w : World) :
  Calls Tryz.prog 284 #[.int .u64 0] w fun e w' => e = .returned (.int .i64 64) ∧ w = w' := by
 go_enter Tryz.func284, Tryz.ntmps284
 go_wp2
 go_ret
 exact ⟨rfl, rfl⟩
theorem ntz_walk (s p x k : Nat) (w : World) (h0 : 0 < s) (hn : Go.bits .and .u64 (s : Int) (IntKind.u64.wrap (-(s : Int))) = ((p : Nat) : Int))
  (hi : IntKind.u64.wrap ((p : Int) * 285870213051353865) / 288230376151711744 = ((x : Nat) : Int)) (hx : x < 64) (hc : w.cell? ⟨3, x, none⟩ = some (.int .u8 (k : Int))) (hk : k < 64) :
  Calls Tryz.prog 284 #[.int .u64 (s : Int)] w fun e w' => e = .returned (.int .i64 (k : Int)) ∧ w = w' := by
 go_enter Tryz.func284, Tryz.ntmps284
 go_wp2
 go_ret
 exact ⟨rfl, rfl⟩
theorem ntz_pos (s : Nat) (w : World) (hs : IsSet s) (h0 : 0 < s) (ht : Tab w) :
  Calls Tryz.prog 284 #[.int .u64 (s : Int)] w fun e w' => e = .returned (.int .i64 ((fst s : Nat) : Int)) ∧ w = w' := by
 have hlt := fst_lt (lst_ne hs h0)
 obtain ⟨hd1, hd2⟩ := deB_at ⟨fst s, hlt⟩
 simp only at hd1 hd2
 have hc := ht _ hd1
 rw [hd2] at hc
 exact ntz_walk s (2 ^ fst s) (deIdx (fst s)) (fst s) w h0 (bits_neg s hs h0) (de_idx (fst s)) hd1 hc hlt
theorem first_any (s : Nat) (w : World) (hs : IsSet s) (ht : Tab w) :
  Calls Tryz.prog 262 #[.int .u64 (s : Int)] w fun e w' => e = .returned (.int .i64 ((fst s : Nat) : Int)) ∧ w = w' := by
 have hz : Calls Tryz.prog 284 #[.int .u64 (s : Int)] w fun e w' => e = .returned (.int .i64 ((fst s : Nat) : Int)) ∧ w = w' := by
  rcases Nat.eq_zero_or_pos s with h | h
  ·subst h; exact ntz_zero w
  ·exact ntz_pos s w hs h ht
 have H := hid hz
 clear hz
 go_enter Tryz.func262, Tryz.ntmps262
 go_wp2_with (go_at_call 284; refine (H.out).mono ?_; rintro e w' ⟨rfl, rfl⟩)
 go_ret
 exact ⟨rfl, rfl⟩
def inB (s t : Nat) : Bool := (s ^^^ (s &&& t)) == 0
theorem bits_in (s t : Nat) (hs : IsSet s) (ht : IsSet t) : (Go.bits .andNot .u64 (s : Int) (t : Int) == 0) = inB s t := by
 rw [bits_andNot_u64_nat s t hs ht, inB, Bool.eq_iff_iff]; simp
theorem within_any (s t : Nat) (w : World) (hs : IsSet s) (ht : IsSet t) :
  Calls Tryz.prog 230 #[.int .u64 (s : Int), .int .u64 (t : Int)] w fun e w' => e = .returned (.bool (inB s t)) ∧ w = w' := by
 have H := hid (bits_in s t hs ht)
 clear hs ht
 go_enter Tryz.func230, Tryz.ntmps230
 go_wp2
 go_ret
 exact ⟨ret_b H.out, rfl⟩
def belowS (n : Int) : Nat := if n ≤ 0 then 0 else if 64 ≤ n then 18446744073709551615 else 2 ^ n.toNat - 1
end

section
open Go.ChangeShapes Go.WideShapes Go.ChangeAt Go.RowKit
theorem gTab : Tryz.prog.globalNamed "math/bits.deBruijn64tab" = some 3 := by kernel_rfl
theorem gTabType : (Tryz.prog.globals[3]?).map (·.type) = some 293 := by kernel_rfl
theorem cellsTab : Tryz.prog.cellsOf 293 = 64 := by kernel_rfl
theorem cellsU8 : Tryz.prog.cellsOf 5 = 1 := by kernel_rfl
end

section
open Go.RowKit
def askL : List Nat := [0, 1, 3, 9, 5, 11, 13, 17, 34, 36, 44, 48]
def nameL : List (List UInt8) := [[114, 101, 97, 100, 45, 97, 116, 111, 109, 105, 99], [115, 101, 115, 115, 105, 111, 110, 45, 97, 116, 111, 109, 105, 99], [99, 97, 117, 115, 97, 108], [117, 112, 100, 97, 116, 101], [112, 114, 101, 102, 105, 120], [112, 97, 114, 97, 108, 108, 101, 108], [115, 110, 97, 112, 115, 104, 111, 116], [115, 101, 114, 105, 97, 108], [116, 105, 109, 101, 45, 99, 97, 117, 115, 97, 108], [116, 105, 109, 101, 45, 112, 114, 101, 102, 105, 120], [116, 105, 109, 101, 45, 115, 110, 97, 112, 115, 104, 111, 116], [115, 116, 114, 105, 99, 116]]
def isLv (l : Int) : Bool := decide (0 ≤ l ∧ l < 12)
def askAt (k : Nat) : Nat := askL.getD k 0
def nameAt (k : Nat) : ByteArray := ⟨(nameL.getD k []).toArray⟩
def askN (l : Int) : Nat := if isLv l then askAt l.toNat else 0
def clN (k : Nat) : Nat :=
 let a := if k.testBit 4 then k ||| 12 else k
 let b := if a.testBit 2 then a ||| 2 else a
 if b.testBit 5 then b ||| 1 else b
def clI (x : Int) : Nat := clN (x % 64).toNat
theorem askAt_lt : ∀ k : Fin 12, askAt k.val < 64 := by decide
theorem askN_lt (l : Int) : askN l < 64 := by
 unfold askN isLv
 split
 ·rename_i h
  simp only [decide_eq_true_eq] at h
  exact askAt_lt ⟨l.toNat, by omega⟩
 ·omega
theorem clN_lt : ∀ k : Fin 64, clN k.val < 64 := by decide +kernel
theorem clI_lt (x : Int) : clI x < 64 := clN_lt ⟨(x % 64).toNat, by omega⟩
theorem and63 (n : Int) : bits .and .i64 n 63 = n % 64 := by
 have h1 : (BitVec.ofInt 64 63) = 63#64 := by decide
 show IntKind.i64.wrap ((BitVec.ofInt 64 n &&& BitVec.ofInt 64 63).toNat : Int) = _
 have h2 : (BitVec.ofInt 64 n &&& BitVec.ofInt 64 63).toNat = (BitVec.ofInt 64 n).toNat % 64 := by
  rw [BitVec.toNat_and, h1]
  exact Nat.and_two_pow_sub_one_eq_mod _ 6
 rw [h2, BitVec.toNat_ofInt, IntKind.wrap_i64]
 omega
theorem i64_and_nat (a b : Nat) (ha : a < 9223372036854775808) (hb : b < 9223372036854775808) : bits .and .i64 (a : Int) (b : Int) = ((a &&& b : Nat) : Int) := by
 have hx : a &&& b ≤ a := Nat.and_le_left
 have h1 : (BitVec.ofInt 64 (a : Int)).toNat = a := by
  rw [BitVec.ofInt_natCast, BitVec.toNat_ofNat]; exact Nat.mod_eq_of_lt (by omega)
 have h2 : (BitVec.ofInt 64 (b : Int)).toNat = b := by
  rw [BitVec.ofInt_natCast, BitVec.toNat_ofNat]; exact Nat.mod_eq_of_lt (by omega)
 show IntKind.i64.wrap ((BitVec.ofInt 64 (a : Int) &&& BitVec.ofInt 64 (b : Int)).toNat : Int) = _
 rw [BitVec.toNat_and, h1, h2, IntKind.wrap_i64]
 omega
theorem i64_or_nat (a b : Nat) (ha : a < 2 ^ 63) (hb : b < 2 ^ 63) : bits .or .i64 (a : Int) (b : Int) = ((a ||| b : Nat) : Int) := by
 have hx : a ||| b < 2 ^ 63 := Nat.or_lt_two_pow ha hb
 have h1 : (BitVec.ofInt 64 (a : Int)).toNat = a := by
  rw [BitVec.ofInt_natCast, BitVec.toNat_ofNat]; exact Nat.mod_eq_of_lt (by omega)
 have h2 : (BitVec.ofInt 64 (b : Int)).toNat = b := by
  rw [BitVec.ofInt_natCast, BitVec.toNat_ofNat]; exact Nat.mod_eq_of_lt (by omega)
 show IntKind.i64.wrap ((BitVec.ofInt 64 (a : Int) ||| BitVec.ofInt 64 (b : Int)).toNat : Int) = _
 rw [BitVec.toNat_or, h1, h2, IntKind.wrap_i64]
 omega
theorem i64_andNot_nat (a b : Nat) (ha : a < 2 ^ 63) (hb : b < 2 ^ 63) : bits .andNot .i64 (a : Int) (b : Int) = ((a ^^^ (a &&& b) : Nat) : Int) := by
 have hx : a ^^^ (a &&& b) < 2 ^ 63 := Nat.xor_lt_two_pow ha (Nat.lt_of_le_of_lt Nat.and_le_left ha)
 have h1 : (BitVec.ofInt 64 (a : Int)).toNat = a := by
  rw [BitVec.ofInt_natCast, BitVec.toNat_ofNat]; exact Nat.mod_eq_of_lt (by omega)
 have h2 : (BitVec.ofInt 64 (b : Int)).toNat = b := by
  rw [BitVec.ofInt_natCast, BitVec.toNat_ofNat]; exact Nat.mod_eq_of_lt (by omega)
 show IntKind.i64.wrap ((BitVec.ofInt 64 (a : Int) &&& ~~~ (BitVec.ofInt 64 (b : Int))).toNat : Int) = _
 have e : ∀ x y : BitVec 64, x &&& ~~~ y = x ^^^ (x &&& y) := by
  intro x y; ext i hi; simp; cases x[i] <;> cases y[i] <;> rfl
 rw [e, BitVec.toNat_xor, BitVec.toNat_and, h1, h2, IntKind.wrap_i64]
 omega
end

section
open Go.RowKit
def Kinds (w : World) : Prop := ∀ k, k < 12 → w.cell? ⟨0, k * 2, none⟩ = some (.string (nameAt k)) ∧ w.cell? ⟨0, k * 2 + 1, none⟩ = some (.int .i64 (askAt k))
theorem lret_b {a b : Bool} (h : a = b) : Ending.returned (.bool a) = .returned (.bool b) := by rw [h]
theorem lret_i {k : IntKind} {a b : Int} (h : a = b) : Ending.returned (.int k a) = .returned (.int k b) := by rw [h]
theorem lis_any (l : Int) (w : World) : Calls Tryz.prog 136 #[.int .i64 l] w fun e w' => e = .returned (.bool (isLv l)) ∧ w = w' := by
 have H : Hid ((decide (0 ≤ l) && decide (l < 12)) = isLv l) := hid (by unfold isLv; simp)
 by_cases h0 : 0 ≤ l
 ·have H1 : Hid (decide (l < 12) = isLv l) := hid (by rw [← H.out]; simp [h0])
  go_enter Tryz.func136, Tryz.ntmps136
  go_wp2
  go_ret
  exact ⟨lret_b H1.out, rfl⟩
 ·have H1 : Hid (false = isLv l) := hid (by rw [← H.out]; simp [h0])
  go_enter Tryz.func136, Tryz.ntmps136
  go_wp2
  go_ret
  exact ⟨lret_b H1.out, rfl⟩
theorem lis_yes {l : Int} (h : isLv l = true) (w : World) : Calls Tryz.prog 136 #[.int .i64 l] w fun e w' => e = .returned (.bool true) ∧ w = w' := by
 have := lis_any l w; rwa [h] at this
theorem lis_no {l : Int} (h : isLv l = false) (w : World) : Calls Tryz.prog 136 #[.int .i64 l] w fun e w' => e = .returned (.bool false) ∧ w = w' := by
 have := lis_any l w; rwa [h] at this
theorem lasks_any (l : Int) (w : World) (hK : Kinds w) : Calls Tryz.prog 138 #[.int .i64 l] w fun e w' => e = .returned (.int .i64 (askN l)) ∧ w = w' := by
 cases h : isLv l
 ·have C := hid (fun wx => lis_no h wx)
  have H : Hid (((askN l : Nat) : Int) = 0) := hid (by unfold askN; rw [h]; rfl)
  clear h hK
  rw [H.out]
  go_enter Tryz.func138, Tryz.ntmps138
  go_wp2_with (go_at_call 136; refine (C.out _).mono ?_; rintro e w' ⟨rfl, rfl⟩)
  go_ret
  exact ⟨rfl, rfl⟩
 ·have C := hid (fun wx => lis_yes h wx)
  have hl : 0 ≤ l ∧ l < 12 := by simpa [isLv] using h
  obtain ⟨k, rfl⟩ := Int.eq_ofNat_of_zero_le hl.1
  have hk : k < 12 := by omega
  have hki : (k : Int) < 12 := by omega
  have H : Hid (askN (k : Int) = askAt k) := hid (by unfold askN; rw [h]; rfl)
  have hc := (hK k hk).2
  clear h hK hl
  rw [H.out]
  generalize askAt k = a at *
  go_enter Tryz.func138, Tryz.ntmps138
  go_wp2_with (go_at_call 136; refine (C.out _).mono ?_; rintro e w' ⟨rfl, rfl⟩)
  go_ret
  exact ⟨rfl, rfl⟩
theorem cl_bits : ∀ k : Fin 64, (k.val &&& 16 = if k.val.testBit 4 then 16 else 0) ∧ (k.val &&& 4 = if k.val.testBit 2 then 4 else 0) ∧ (k.val &&& 32 = if k.val.testBit 5 then 32 else 0) ∧ (k.val ||| 12 < 64) ∧ (k.val ||| 2 < 64) ∧ (k.val ||| 1 < 64) := by decide +kernel
theorem cl_i64 (k : Nat) (hk : k < 64) : bits .and .i64 (k : Int) 16 = (if k.testBit 4 then 16 else 0) ∧ bits .and .i64 (k : Int) 4 = (if k.testBit 2 then 4 else 0) ∧ bits .and .i64 (k : Int) 32 = (if k.testBit 5 then 32 else 0) ∧
  bits .or .i64 (k : Int) 12 = ((k ||| 12 : Nat) : Int) ∧ bits .or .i64 (k : Int) 2 = ((k ||| 2 : Nat) : Int) ∧ bits .or .i64 (k : Int) 1 = ((k ||| 1 : Nat) : Int) ∧ (k ||| 12 < 64) ∧ (k ||| 2 < 64) := by
 obtain ⟨h1, h2, h3, h4, h5, h6⟩ := cl_bits ⟨k, hk⟩
 simp only at h1 h2 h3 h4 h5 h6
 refine ⟨?_, ?_, ?_, ?_, ?_, ?_, h4, h5⟩
 ·rw [show (16 : Int) = ((16 : Nat) : Int) from rfl, i64_and_nat k 16 (by omega) (by omega), h1]; split <;> rfl
 ·rw [show (4 : Int) = ((4 : Nat) : Int) from rfl, i64_and_nat k 4 (by omega) (by omega), h2]; split <;> rfl
 ·rw [show (32 : Int) = ((32 : Nat) : Int) from rfl, i64_and_nat k 32 (by omega) (by omega), h3]; split <;> rfl
 ·exact i64_or_nat k 12 (by omega) (by omega)
 ·exact i64_or_nat k 2 (by omega) (by omega)
 ·exact i64_or_nat k 1 (by omega) (by omega)
theorem cl_parts (x : Int) : ∃ k a b : Nat, bits .and .i64 x 63 = (k : Int) ∧
  ((bits .and .i64 (k : Int) 16 = 16 ∧ bits .or .i64 (k : Int) 12 = (a : Int)) ∨ (bits .and .i64 (k : Int) 16 = 0 ∧ a = k)) ∧
  ((bits .and .i64 (a : Int) 4 = 4 ∧ bits .or .i64 (a : Int) 2 = (b : Int)) ∨ (bits .and .i64 (a : Int) 4 = 0 ∧ b = a)) ∧
  ((bits .and .i64 (b : Int) 32 = 32 ∧ bits .or .i64 (b : Int) 1 = ((clI x : Nat) : Int)) ∨ (bits .and .i64 (b : Int) 32 = 0 ∧ clI x = b)) := by
 obtain ⟨k, hkx, hk⟩ : ∃ k : Nat, x % 64 = (k : Int) ∧ k < 64 := ⟨(x % 64).toNat, by omega, by omega⟩
 obtain ⟨k1, _, _, k4, _, _, ha, _⟩ := cl_i64 k hk
 obtain ⟨a, hA⟩ : ∃ a : Nat, a = if k.testBit 4 then k ||| 12 else k := ⟨_, rfl⟩
 have hal : a < 64 := by rw [hA]; split <;> omega
 obtain ⟨_, a2, _, _, a5, _, _, hb⟩ := cl_i64 a hal
 obtain ⟨b, hB⟩ : ∃ b : Nat, b = if a.testBit 2 then a ||| 2 else a := ⟨_, rfl⟩
 have hbl : b < 64 := by rw [hB]; split <;> omega
 obtain ⟨_, _, b3, _, _, b6, _, _⟩ := cl_i64 b hbl
 have hC : clI x = if b.testBit 5 then b ||| 1 else b := by unfold clI; rw [hkx, Int.toNat_natCast]; unfold clN; simp only; rw [← hA, ← hB]
 refine ⟨k, a, b, by rw [and63, hkx], ?_, ?_, ?_⟩
 ·cases t : k.testBit 4
  ·exact .inr ⟨by rw [k1, t]; rfl, by rw [hA, t]; rfl⟩
  ·exact .inl ⟨by rw [k1, t]; rfl, by rw [k4, hA, t]; rfl⟩
 ·cases t : a.testBit 2
  ·exact .inr ⟨by rw [a2, t]; rfl, by rw [hB, t]; rfl⟩
  ·exact .inl ⟨by rw [a2, t]; rfl, by rw [a5, hB, t]; rfl⟩
 ·cases t : b.testBit 5
  ·exact .inr ⟨by rw [b3, t]; rfl, by rw [hC, t]; rfl⟩
  ·exact .inl ⟨by rw [b3, t]; rfl, by rw [b6, hC, t]; rfl⟩
theorem lclosed_any (x : Int) (w : World) : Calls Tryz.prog 166 #[.int .i64 x] w fun e w' => e = .returned (.int .i64 (clI x)) ∧ w = w' := by
 obtain ⟨k, a, b, e0, h1, h2, h3⟩ := cl_parts x
 generalize clI x = c at *
 rcases h1 with ⟨e1, e2⟩ | ⟨e1, rfl⟩ <;> rcases h2 with ⟨e3, e4⟩ | ⟨e3, rfl⟩ <;> rcases h3 with ⟨e5, e6⟩ | ⟨e5, rfl⟩
 all_goals
  go_enter Tryz.func166, Tryz.ntmps166
  go_wp2
  go_ret
  exact ⟨rfl, rfl⟩
end

section
open Go.ChangeShapes Go.WideShapes Go.ChangeAt Go.RowKit
theorem gKinds : Tryz.prog.globalNamed "burgage/level.kinds" = some 0 := by kernel_rfl
theorem gKindsType : (Tryz.prog.globals[0]?).map (·.type) = some 232 := by kernel_rfl
theorem cellsKind : Tryz.prog.cellsOf 231 = 2 := by kernel_rfl
theorem cellsStr : Tryz.prog.cellsOf 9 = 1 := by kernel_rfl
theorem cellsInt : Tryz.prog.cellsOf 3 = 1 := by kernel_rfl
theorem laidKinds {H : Type} : (Rows.laid_burgage_level_kinds : DataW H) = .agg ((List.range 12).map fun k => .agg [.lit (.string (nameL.getD k [])), .lit (.int .i64 (askAt k))]) := rfl
theorem kinds_of {W : World} (h : laidMetH Tryz.prog [("burgage/level.kinds", Rows.laid_burgage_level_kinds)] W) : Kinds W := by
 obtain ⟨ps, ⟨g', t', cs, fuel, p, q, hg', ht', hvar, hd, _, _⟩, _⟩ := h
 obtain rfl := Option.some.inj (gKinds.symm.trans hg')
 obtain rfl := Option.some.inj (gKindsType.symm.trans ht')
 obtain ⟨xs, m, rfl, hx, hlen, hxl, hat⟩ := DataW.trod_array Tryz.underlying232 hd
 intro k hk
 have h1 := hat k hk
 have hxk : xs[k]? = some xs[k] := List.getElem?_eq_getElem (by omega)
 rw [hxk, cellsKind] at h1
 obtain ⟨y0, y1, n, hy, hcl, h2, h3⟩ := trod_struct2 Tryz.underlying231 h1
 have hdat := congrArg Prod.fst hx
 rw [laidKinds] at hdat
 simp only [DataW.agg.injEq] at hdat
 have hk2 := congrArg (·[k]?) hdat
 simp only [List.getElem?_map, hxk, Option.map_some, List.getElem?_range hk, hy, Option.some.injEq, DataW.agg.injEq, List.cons.injEq, and_true] at hk2
 obtain ⟨e0, e1⟩ := hk2
 rw [cellsStr] at h2
 rw [cellsInt] at h3
 obtain ⟨s, c0, rfl, _⟩ := DataW.trod_string Tryz.underlying9 h2
 obtain ⟨z, c1, rfl, _⟩ := DataW.trod_int Tryz.underlying3 h3
 simp only [DataW.lit.injEq, Lit.string.injEq, Lit.int.injEq, true_and] at e0 e1
 have hs : s = nameAt k := by unfold nameAt; rw [e0]
 subst hs
 subst e1
 constructor
 ·rw [World.var?_cell gKinds hvar]
  have := congrArg (·[0]?) c0
  simpa [List.getElem?_take, List.getElem?_drop] using this
 ·rw [World.var?_cell gKinds hvar]
  have := congrArg (·[0]?) c1
  simpa [List.getElem?_take, List.getElem?_drop] using this
def leafS : DataW Unit → List Value
 | .lit (.int k n) => [.int k n]
 | .lit (.bool b) => [.bool b]
 | .lit (.string l) => [.string ⟨l.toArray⟩]
 | _ => []
def leafSS : DataW Unit → List Value
 | .agg ds => ds.flatMap fun d => match d with
  | .agg es => es.flatMap leafS
  | d => leafS d
 | d => leafS d
def setS (h : Array Obj) (g : Nat) (d : DataW Unit) : Array Obj := h.modify g fun
 | .cells _ t frozen => .cells (leafSS d).toArray t frozen
 | o => o
end

section
open Go.ChangeShapes Go.WideShapes Go.ChangeAt Go.RowKit
def listTK {H : Type} : List (String × DataW H) := [("math/bits.deBruijn64tab", Rows.laid_math_bits_deBruijn64tab), ("burgage/level.kinds", Rows.laid_burgage_level_kinds)]
theorem tab_of_two {W : World} (h : laidMetH Tryz.prog listTK W) : Tab W := by
 have ht : Lib.TabIs Tryz.prog W "math/bits.deBruijn64tab" .u8 deB :=
  Lib.tabIs_of_head (rest := [("burgage/level.kinds", Rows.laid_burgage_level_kinds)]) gTab gTabType Tryz.underlying293 Tryz.underlying5 cellsU8 cellsTab h
 intro i hi
 exact ht.cell gTab i hi
theorem kinds_of_two {W : World} (h : laidMetH Tryz.prog listTK W) : Kinds W := kinds_of (laidMet.tail h)
noncomputable def laidWorldTK (os : Os) : World :=
 { World.holding Tryz.prog os ⟨#[], #[], []⟩ with heap := setS (setS (World.holding Tryz.prog os ⟨#[], #[], []⟩).heap 3 Rows.laid_math_bits_deBruijn64tab) 0 Rows.laid_burgage_level_kinds }
end

section
open Go.RowKit
def Row (w : World) (v : Value) (n size : Nat) (cs : List Value) : Prop :=
 cs.length = n * size ∧ ∃ ao cap, v = .slice ao n cap ∧ (n ≤ cap ∧ cap ≤ maxLen) ∧ (ao = none → n = 0 ∧ cap = 0) ∧ (0 < n → ∃ b off, ao = some ⟨b, off, none⟩ ∧ ∀ i, i < n * size → w.cell? ⟨b, off + i, none⟩ = cs[i]?)
def Ints (w : World) (v : Value) (xs : List Int) : Prop := Row w v xs.length 1 (xs.map (Value.int .i64))
theorem block_lt {w : World} {a : Addr} {v : Value} (h : w.cell? a = some v) : a.block < w.heap.size := by
 by_cases h0 : a.block < w.heap.size
 ·exact h0
 ·simp [World.cell?, Array.getElem?_eq_none (Nat.le_of_not_lt h0)] at h
theorem Row.below {w w' : World} {v : Value} {n size : Nat} {cs : List Value} (h : Row w v n size cs) (hb : Below w.heap.size w w') : Row w' v n size cs := by
 obtain ⟨hl, ao, cap, rfl, hm, hno, hc⟩ := h
 refine ⟨hl, ao, cap, rfl, hm, hno, fun hn => ?_⟩
 obtain ⟨b, off, rfl, hcell⟩ := hc hn
 refine ⟨b, off, rfl, fun i hi => ?_⟩
 have h1 := hcell i hi
 have h2 : cs[i]? = some cs[i] := List.getElem?_eq_getElem (by omega)
 rw [h2] at h1
 have hlt := block_lt h1
 rw [hb.cell (p := ⟨b, off + i, none⟩) hlt, h1, h2]
theorem Ints.below {w w' : World} {v : Value} {xs : List Int} (h : Ints w v xs) (hb : Below w.heap.size w w') : Ints w' v xs := Row.below h hb
theorem Row.of_owns {w : World} {base : Nat} {e : TypeId} {size : Nat} {v : Value} {n : Nat} {cs : List Value} (h : w.ownsRow base e size v n cs) : Row w v n size cs := by
 obtain ⟨hl, h⟩ := h
 refine ⟨hl, ?_⟩
 rcases h with ⟨rfl, rfl⟩ | ⟨g, cap, cur, rfl, hb, hh, hn, hm, hs, ht⟩
 ·exact ⟨none, 0, rfl, by simp, fun _ => ⟨rfl, rfl⟩, fun h => by omega⟩
 ·refine ⟨some ⟨g, 0, none⟩, cap, rfl, by omega, fun h => (by cases h), fun _ => ⟨g, 0, rfl, fun i hi => ?_⟩⟩
  have hown : w.ownsRow base e size (.slice (some ⟨g, 0, none⟩) n cap) n cs := ⟨hl, .inr ⟨g, cap, cur, rfl, hb, hh, hn, hm, hs, ht⟩⟩
  have := hown.cellAt i hi
  simpa using this
theorem Ints.of_owns {w : World} {base : Nat} {e : TypeId} {v : Value} {n : Nat} {xs : List Int} (h : w.ownsRow base e 1 v n (xs.map (Value.int .i64))) : Ints w v xs := by
 have hr := Row.of_owns h
 have hn : n = xs.length := by have := h.1; simp at this; omega
 subst hn; exact hr
theorem Ints.form {w : World} {v : Value} {xs : List Int} (h : Ints w v xs) : ∃ ao cap, v = .slice ao xs.length cap ∧ xs.length ≤ 9223372036854775807 := by
 obtain ⟨_, ao, cap, rfl, hm, _, _⟩ := h
 exact ⟨ao, cap, rfl, Nat.le_trans hm.1 hm.2⟩
theorem Ints.at {w : World} {ao : Option Addr} {n cap : Nat} {xs : List Int} (h : Ints w (.slice ao n cap) xs) {k : Nat} (hk : k < xs.length) :
  ∃ b off, ao = some ⟨b, off, none⟩ ∧ w.cell? ⟨b, off + k, none⟩ = some (.int .i64 xs[k]) := by
 obtain ⟨_, ao', cap', he, hm, _, hc⟩ := h
 obtain ⟨rfl, _, _⟩ : ao = ao' ∧ n = xs.length ∧ cap = cap' := by simpa using he
 obtain ⟨b, off, rfl, hcell⟩ := hc (by omega)
 refine ⟨b, off, rfl, ?_⟩
 rw [hcell k (by omega)]
 simp [List.getElem?_eq_getElem hk]
theorem owns_below {w w' : World} {base : Nat} {e : TypeId} {size : Nat} {v : Value} {n : Nat} {cs : List Value} (h : w.ownsRow base e size v n cs) (hb : Below w.heap.size w w') : w'.ownsRow base e size v n cs :=
 h.kept (row := none) ⟨hb.os, hb.tape, hb.output, hb.size, fun k hk _ => hb.block k hk⟩ (by cases v.ownBlock <;> simp)
theorem wpList_append_row {P : Program} {w : World} {ops : Array Oper} {rest : List Oper} {o : Oper} {a : Act} {Q : Exit → Act → World → Prop} (hgd : o.guard = none) (s x : Operand) (t : TypeId)
  (ho : o.op = .call { callee := .builtin .append, args := #[s, x], argTypes := #[t, t] })
  (base : Nat) (e : TypeId) (i : TypeInfo) (z : Value) (size bytes : Nat) (ht : P.underlying t = some (.slice e)) (hi : P.info? e = some i) (hz : i.zero = some z)
  (hsize : i.size = size) (hby : i.bytes = bytes) (hzs : z.cells.size = size) (hsz : 0 < size)
  (v : Value) (n : Nat) (xs : List Value) (hs : a.eval s = v) (hown : w.ownsRow base e size v n xs)
  (sv : Value) (m : Nat) (news : List Value) (hx : a.eval x = sv) (hsrc : Row w sv m size news) (h1 : ∀ u ∈ news, u.oneCell' = true)
  (h63 : n + m ≤ maxLen) (hbytes : (n + m) * bytes ≤ 140737488355328) (hbase : base ≤ w.heap.size)
  (h : ∀ v' w', w'.ownsRow base e size v' (n + m) (xs ++ news) → w.grownBy w' v.ownBlock → wpList P ops Q rest (a.put o.dst v') w') : wpList P ops Q (o :: rest) a w := by
 obtain ⟨hl, ao, cap, rfl, _, hno, hc⟩ := hsrc
 cases ao with
 | none =>
  obtain ⟨rfl, rfl⟩ := hno rfl
  have hnews : news = [] := List.eq_nil_of_length_eq_zero (by simpa using hl)
  subst hnews
  exact wpList_append_own_none hgd s x t ho base e i size ht hi v n xs hs hown hx (by simpa using h v w (by simpa using hown) (World.grownBy.refl _ _))
 | some ad =>
  refine wpList_append_own w hgd s x t ho base e i z size bytes ht hi hz hsize hby hzs hsz v n xs hs hown ad m cap news hx hl ?_ h1 h63 hbytes hbase (fun v' w' h2 h3 _ => h v' w' h2 h3)
  intro j u hu
  have hj : j < news.length := (List.getElem?_eq_some_iff.1 hu).1
  have hm : 0 < m := by
   rcases Nat.eq_zero_or_pos m with h0 | h0
   ·subst h0; rw [Nat.zero_mul] at hl; omega
   ·exact h0
  obtain ⟨b, off, he, hcell⟩ := hc hm
  obtain rfl := Option.some.inj he
  rw [Addr.add_lit, hcell j (by omega), hu]
end

section
open Go.RowKit
def IntOk (n : Int) : Prop := -9223372036854775808 ≤ n ∧ n ≤ 9223372036854775807
structure OpV where
 wr : Bool
 key : Int
 val : Int
def OpV.v (o : OpV) : Value := .agg #[.bool o.wr, .int .i64 o.key, .int .i64 o.val]
def OpV.ok (o : OpV) : Prop := IntOk o.key ∧ IntOk o.val
def opZ : OpV := ⟨false, 0, 0⟩
def mayO (o : OpV) : Bool := (decide (0 ≤ o.key) && decide (o.key < 64)) && (decide (0 ≤ o.val) && decide (o.val ≤ 2147483647)) && (!o.wr || o.val != 0)
theorem mayO_iff (o : OpV) : mayO o = true ↔ (0 ≤ o.key ∧ o.key < 64) ∧ (0 ≤ o.val ∧ o.val ≤ 2147483647) ∧ (o.wr = true → o.val ≠ 0) := by
 obtain ⟨wr, key, val⟩ := o
 unfold mayO
 cases wr <;> simp [and_assoc]
theorem box_below (w : World) (o : Obj) : Below w.heap.size w (w.alloc o) := (Below.refl _ _).alloc (Nat.le_refl _) _
theorem right_any (wr : Bool) (key val : Int) (w : World) :
  Calls Tryz.prog 163 #[.agg #[.bool wr, .int .i64 key, .int .i64 val]] w fun e w' => e = .returned (.bool (mayO ⟨wr, key, val⟩)) ∧ Below w.heap.size w w' := by
 have hi := mayO_iff ⟨wr, key, val⟩
 by_cases h : mayO ⟨wr, key, val⟩ = true
 ·obtain ⟨⟨h1, h2⟩, ⟨h3, h4⟩, h5⟩ := hi.1 h
  have HM := hid h
  have c1 : ¬ key < 0 := by simpa using h1
  have c2 : ¬ (64 : Int) ≤ key := by simp at h2; omega
  have c3 : ¬ val < 0 := by simpa using h3
  have c4 : ¬ (2147483647 : Int) < val := by simp at h4; omega
  simp only at h1 h2 h3 h4 h5
  clear h hi
  cases wr
  ·clear h5
   go_enter Tryz.func163, Tryz.ntmps163
   go_wp2_with fail
   go_ret
   exact ⟨ret_b HM.out.symm, box_below _ _⟩
  ·have c5 : (val != 0) = true := by rw [bne_iff_ne]; exact h5 rfl
   clear h5
   go_enter Tryz.func163, Tryz.ntmps163
   go_wp2_with fail
   go_ret
   exact ⟨ret_b HM.out.symm, box_below _ _⟩
 ·have HM : Hid (mayO ⟨wr, key, val⟩ = false) := hid (by simpa using h)
  have hn : ¬ ((0 ≤ key ∧ key < 64) ∧ (0 ≤ val ∧ val ≤ 2147483647) ∧ (wr = true → val ≠ 0)) := fun k => h (hi.2 k)
  clear h hi
  by_cases c1 : key < 0
  ·go_enter Tryz.func163, Tryz.ntmps163
   clear hn
   go_wp2_with fail
   go_ret
   exact ⟨ret_b HM.out.symm, box_below _ _⟩
  by_cases c2 : (64 : Int) ≤ key
  ·clear hn
   go_enter Tryz.func163, Tryz.ntmps163
   go_wp2_with fail
   go_ret
   exact ⟨ret_b HM.out.symm, box_below _ _⟩
  by_cases c3 : val < 0
  ·clear hn
   go_enter Tryz.func163, Tryz.ntmps163
   go_wp2_with fail
   go_ret
   exact ⟨ret_b HM.out.symm, box_below _ _⟩
  by_cases c4 : (2147483647 : Int) < val
  ·clear hn
   go_enter Tryz.func163, Tryz.ntmps163
   go_wp2_with fail
   go_ret
   exact ⟨ret_b HM.out.symm, box_below _ _⟩
  cases wr
  ·exfalso; apply hn; exact ⟨⟨by omega, by omega⟩, ⟨by omega, by omega⟩, fun h => by cases h⟩
  ·have hv : val = 0 := by
    by_cases h : val = 0
    ·exact h
    ·exfalso; apply hn; exact ⟨⟨by omega, by omega⟩, ⟨by omega, by omega⟩, fun _ => h⟩
   subst hv
   clear hn
   go_enter Tryz.func163, Tryz.ntmps163
   go_wp2_with fail
   go_ret
   exact ⟨ret_b HM.out.symm, box_below _ _⟩
theorem below_then {w0 w1 w2 : World} (h : Below w0.heap.size w0 w1) (k : Below w1.heap.size w1 w2) : Below w0.heap.size w0 w2 := h.trans (k.mono h.size)
theorem opBlock (w : World) (x y z : Value) (t : TypeId) : (w.alloc (.cells #[x, y, z] t)).cell? ⟨w.heap.size, 0, none⟩ = some x ∧ (w.alloc (.cells #[x, y, z] t)).cell? ⟨w.heap.size, 1, none⟩ = some y ∧ (w.alloc (.cells #[x, y, z] t)).cell? ⟨w.heap.size, 2, none⟩ = some z := by
 refine ⟨?_, ?_, ?_⟩ <;> simp
def opV (l : List OpV) : List Value := l.flatMap fun o => [.bool o.wr, .int .i64 o.key, .int .i64 o.val]
theorem opV_len (l : List OpV) : (opV l).length = l.length * 3 := by
 induction l with
 | nil => rfl
 | cons a l ih => unfold opV at *; rw [List.flatMap_cons, List.length_append, ih]; simp; omega
theorem opV_at : ∀ (l : List OpV) (k : Nat) (hk : k < l.length), (opV l)[k * 3]? = some (.bool l[k].wr) ∧ (opV l)[k * 3 + 1]? = some (.int .i64 l[k].key) ∧ (opV l)[k * 3 + 2]? = some (.int .i64 l[k].val)
 | a :: l, 0, _ => ⟨rfl, rfl, rfl⟩
 | a :: l, k + 1, hk => by
  obtain ⟨h0, h1, h2⟩ := opV_at l k (by simpa using hk)
  have e : ∀ j, (opV (a :: l))[(k + 1) * 3 + j]? = (opV l)[k * 3 + j]? := fun j => by
   unfold opV
   rw [List.flatMap_cons, show (k + 1) * 3 + j = 3 + (k * 3 + j) from by omega]
   rw [List.getElem?_append_right (by simp)]
   simp
  exact ⟨(e 0).trans h0, (e 1).trans h1, (e 2).trans h2⟩
def Ops (w : World) (v : Value) (l : List OpV) : Prop := Row w v l.length 3 (opV l)
theorem Ops.below {w w' : World} {v : Value} {l : List OpV} (h : Ops w v l) (hb : Below w.heap.size w w') : Ops w' v l := Row.below h hb
theorem Ops.form {w : World} {v : Value} {l : List OpV} (h : Ops w v l) : ∃ ao cap, v = .slice ao l.length cap ∧ l.length ≤ 9223372036854775807 := by
 obtain ⟨_, ao, cap, rfl, hm, _, _⟩ := h
 exact ⟨ao, cap, rfl, Nat.le_trans hm.1 hm.2⟩
theorem Ops.at {w : World} {ao : Option Addr} {n cap : Nat} {l : List OpV} (h : Ops w (.slice ao n cap) l) {k : Nat} (hk : k < l.length) :
  ∃ b off, ao = some ⟨b, off, none⟩ ∧ w.cell? ⟨b, off + k * 3, none⟩ = some (.bool l[k].wr) ∧ w.cell? ⟨b, off + k * 3 + 1, none⟩ = some (.int .i64 l[k].key) ∧ w.cell? ⟨b, off + k * 3 + 2, none⟩ = some (.int .i64 l[k].val) := by
 obtain ⟨_, ao', cap', he, hm, _, hc⟩ := h
 obtain ⟨rfl, _, _⟩ : ao = ao' ∧ n = l.length ∧ cap = cap' := by simpa using he
 obtain ⟨b, off, rfl, hcell⟩ := hc (by omega)
 obtain ⟨h0, h1, h2⟩ := opV_at l k hk
 refine ⟨b, off, rfl, ?_, ?_, ?_⟩
 ·rw [hcell (k * 3) (by omega), h0]
 ·rw [Nat.add_assoc, hcell (k * 3 + 1) (by omega), h1]
 ·rw [Nat.add_assoc, hcell (k * 3 + 2) (by omega), h2]
def allM (l : List OpV) : Bool := l.all mayO
theorem allM_succ (l : List OpV) (k : Nat) (hk : k < l.length) : allM (l.take (k + 1)) = (allM (l.take k) && mayO l[k]) := by
 unfold allM; rw [List.take_succ_eq_append_getElem hk, List.all_append]; simp
theorem allM_no (l : List OpV) (k : Nat) (hk : k < l.length) (h : mayO l[k] = false) : allM l = false := by
 unfold allM; exact List.all_eq_false.2 ⟨l[k], List.getElem_mem hk, by simp [h]⟩
end

section
open Go.ChangeShapes Go.WideShapes Go.ChangeAt Go.RowKit Go.Deep
theorem cellsOp : Tryz.prog.cellsOf 79 = 3 := by kernel_rfl
theorem ops_of_cells {H : Type} {enc : TypeId × Value → H} {W : World} {v : Value} {fuel : Nat} {x : DataW H × List MemPlace}
  (hf : DataW.trod enc Tryz.prog W 0 (fun _ => true) true fuel 81 [v] = some x) : ∃ l, Ops W v l ∧ (∀ o ∈ l, o.ok) ∧ ((∀ n ∈ DataW.weights Tryz.prog 81 x.1, n ≤ reachBytes) → l.length ≤ 6000000000000) := by
 rcases open_slice Tryz.underlying81 hf with ⟨hcs, _⟩ | ⟨a, len, cap, m, n, D, Pl, hcs, _, hl, hm, hmm, hx, hi⟩
 ·obtain rfl : v = .slice none 0 0 := by simpa using hcs
  exact ⟨[], ⟨rfl, none, 0, rfl, by simp, (fun _ => ⟨rfl, rfl⟩), (fun h => by simp at h)⟩, by simp, by simp⟩
 ·obtain rfl : v = .slice (some a) len cap := by simpa using hcs
  simp only [if_true] at hmm
  have key : ∀ i, ∃ o : OpV, i < len → o.ok ∧ W.cell? ((a.add (i * 3)).add 0) = some (.bool o.wr) ∧ W.cell? ((a.add (i * 3)).add 1) = some (.int .i64 o.key) ∧ W.cell? ((a.add (i * 3)).add 2) = some (.int .i64 o.val) := fun i => by
   by_cases hlt : i < len
   ·obtain ⟨cs', hc, ht⟩ := hi i (by omega)
    rw [cellsOp] at hc
    obtain ⟨_, hcl, hat⟩ := World.cells?_some hc
    obtain ⟨y0, y1, y2, n', _, _, h0, h1, h2⟩ := trod_struct3 Tryz.underlying79 ht
    match cs', hcl with
    | [x0, x1, x2], _ =>
     obtain ⟨b, e0, _⟩ := DataW.trod_bool Tryz.underlying4 h0
     obtain ⟨k, e1, _, w1⟩ := DataW.trod_int Tryz.underlying3 h1
     obtain ⟨z, e2, _, w2⟩ := DataW.trod_int Tryz.underlying3 h2
     have k0 : Tryz.prog.cellsOf 4 = 1 := by kernel_rfl
     have k1 : Tryz.prog.cellsOf 3 = 1 := by kernel_rfl
     simp [k0, k1] at e0 e1 e2
     subst e0; subst e1; subst e2
     exact ⟨⟨b, k, z⟩, fun _ => ⟨⟨bounds_i64 w1, bounds_i64 w2⟩, hat 0 (by omega), hat 1 (by omega), hat 2 (by omega)⟩⟩
   ·exact ⟨opZ, fun h => absurd h hlt⟩
  obtain ⟨O, hO⟩ := Classical.skolem.1 key
  have hlen : ((List.range len).map O).length = len := by simp
  have hel : ∀ (i : Nat) (h : i < ((List.range len).map O).length), ((List.range len).map O)[i] = O i := fun i h => by simp
  refine ⟨(List.range len).map O, ?_, ?_, ?_⟩
  ·generalize (List.range len).map O = l at *
   subst hlen
   refine ⟨opV_len l, some a, cap, rfl, ⟨hl, hm⟩, (fun h => by cases h), fun hn => ?_⟩
   obtain ⟨b, off, spot⟩ := a
   have hspot : spot = none := by
    have := (hO 0 hn).2.1
    simpa [Addr.add] using World.cell?_spot this
   subst hspot
   refine ⟨b, off, rfl, fun i hii => ?_⟩
   have hk : i / 3 < l.length := by omega
   obtain ⟨_, c0, c1, c2⟩ := hO (i / 3) hk
   simp only [Addr.add_lit] at c0 c1 c2
   obtain ⟨e0, e1, e2⟩ := opV_at l (i / 3) hk
   rw [hel _ hk] at e0 e1 e2
   have hm3 : i % 3 = 0 ∨ i % 3 = 1 ∨ i % 3 = 2 := by omega
   rcases hm3 with h | h | h
   ·rw [show i = i / 3 * 3 from by omega, e0, ← c0]; rfl
   ·rw [show i = i / 3 * 3 + 1 from by omega, e1, ← c1, ← Nat.add_assoc]
   ·rw [show i = i / 3 * 3 + 2 from by omega, e2, ← c2, ← Nat.add_assoc]
  ·intro o ho
   obtain ⟨i, hi2, rfl⟩ := List.mem_map.1 ho
   exact (hO i (List.mem_range.1 hi2)).1
  ·intro hw
   rw [hlen]
   have hb24 : Tryz.prog.bytesOf 79 = 24 := by kernel_rfl
   have := hw ((((List.range len).map D).length + ((List.range (m - len)).map fun j => D (len + j)).length) * Tryz.prog.bytesOf 79) (by rw [hx]; simp [DataW.weights, Tryz.underlying81])
   rw [hb24] at this
   unfold reachBytes at this
   simp at this
   omega
end

section
open Go.RowKit
structure TxnV where
 s : Int
 b : Int
 c : Int
 v : Value
 l : List OpV
def TxnV.ok (t : TxnV) : Prop := (IntOk t.s ∧ IntOk t.b ∧ IntOk t.c) ∧ ∀ o ∈ t.l, o.ok
def txV (h : List TxnV) : List Value := h.flatMap fun t => [.int .i64 t.s, .int .i64 t.b, .int .i64 t.c, t.v]
theorem txV_len (h : List TxnV) : (txV h).length = h.length * 4 := by
 induction h with
 | nil => rfl
 | cons a l ih => unfold txV at *; rw [List.flatMap_cons, List.length_append, ih]; simp; omega
theorem txV_at : ∀ (l : List TxnV) (k : Nat) (hk : k < l.length), (txV l)[k * 4]? = some (.int .i64 l[k].s) ∧ (txV l)[k * 4 + 1]? = some (.int .i64 l[k].b) ∧ (txV l)[k * 4 + 2]? = some (.int .i64 l[k].c) ∧ (txV l)[k * 4 + 3]? = some l[k].v
 | a :: l, 0, _ => ⟨rfl, rfl, rfl, rfl⟩
 | a :: l, k + 1, hk => by
  obtain ⟨h0, h1, h2, h3⟩ := txV_at l k (by simpa using hk)
  have e : ∀ j, (txV (a :: l))[(k + 1) * 4 + j]? = (txV l)[k * 4 + j]? := fun j => by
   unfold txV
   rw [List.flatMap_cons, show (k + 1) * 4 + j = 4 + (k * 4 + j) from by omega]
   rw [List.getElem?_append_right (by simp)]
   simp
  exact ⟨(e 0).trans h0, (e 1).trans h1, (e 2).trans h2, (e 3).trans h3⟩
def Txns (w : World) (v : Value) (h : List TxnV) : Prop := Row w v h.length 4 (txV h) ∧ ∀ t ∈ h, Ops w t.v t.l
theorem Txns.below {w w' : World} {v : Value} {h : List TxnV} (hT : Txns w v h) (hb : Below w.heap.size w w') : Txns w' v h := ⟨Row.below hT.1 hb, fun t ht => (hT.2 t ht).below hb⟩
theorem Txns.form {w : World} {v : Value} {l : List TxnV} (h : Txns w v l) : ∃ ao cap, v = .slice ao l.length cap ∧ l.length ≤ 9223372036854775807 := by
 obtain ⟨⟨_, ao, cap, rfl, hm, _, _⟩, _⟩ := h
 exact ⟨ao, cap, rfl, Nat.le_trans hm.1 hm.2⟩
theorem Txns.at {w : World} {ao : Option Addr} {n cap : Nat} {l : List TxnV} (h : Txns w (.slice ao n cap) l) {k : Nat} (hk : k < l.length) :
  ∃ b off, ao = some ⟨b, off, none⟩ ∧ w.cell? ⟨b, off + k * 4, none⟩ = some (.int .i64 l[k].s) ∧ w.cell? ⟨b, off + k * 4 + 1, none⟩ = some (.int .i64 l[k].b) ∧ w.cell? ⟨b, off + k * 4 + 2, none⟩ = some (.int .i64 l[k].c) ∧ w.cell? ⟨b, off + k * 4 + 3, none⟩ = some l[k].v := by
 obtain ⟨⟨_, ao', cap', he, hm, _, hc⟩, _⟩ := h
 obtain ⟨rfl, _, _⟩ : ao = ao' ∧ n = l.length ∧ cap = cap' := by simpa using he
 obtain ⟨b, off, rfl, hcell⟩ := hc (by omega)
 obtain ⟨h0, h1, h2, h3⟩ := txV_at l k hk
 refine ⟨b, off, rfl, ?_, ?_, ?_, ?_⟩
 ·rw [hcell (k * 4) (by omega), h0]
 ·rw [Nat.add_assoc, hcell (k * 4 + 1) (by omega), h1]
 ·rw [Nat.add_assoc, hcell (k * 4 + 2) (by omega), h2]
 ·rw [Nat.add_assoc, hcell (k * 4 + 3) (by omega), h3]
theorem Txns.ops {w : World} {v : Value} {l : List TxnV} (h : Txns w v l) {k : Nat} (hk : k < l.length) : Ops w l[k].v l[k].l := h.2 _ (List.getElem_mem hk)
end

section
open Go.ChangeShapes Go.WideShapes Go.ChangeAt Go.RowKit Go.Deep
theorem cellsTxn : Tryz.prog.cellsOf 83 = 4 := by kernel_rfl
theorem weightsAll_mem {H : Type} {P : Program} {e : TypeId} {d : DataW H} {n : Nat} (hn : n ∈ d.weights P e) : ∀ {ds : List (DataW H)}, d ∈ ds → n ∈ DataW.weightsAll P e ds
 | a :: ds, h => by
  unfold DataW.weightsAll
  rcases List.mem_cons.1 h with rfl | h
  ·exact List.mem_append_left _ hn
  ·exact List.mem_append_right _ (weightsAll_mem hn h)
theorem txns_of_trod {H : Type} {enc : TypeId × Value → H} {W : World} {base : Nat} {v : Value} {d : DataW H} {p : List MemPlace}
  (hval : Value.okWide Tryz.prog W .any base 22 v) (h : DataW.Trod enc Tryz.prog W 0 (fun _ => true) true 22 v d p) (hwt : ∀ n ∈ DataW.weights Tryz.prog 22 d, n ≤ reachBytes) : ∃ l, Txns W v l ∧ (∀ t ∈ l, t.ok) ∧ ∀ t ∈ l, t.l.length ≤ 6000000000000 := by
 obtain ⟨a0, len, cap, rfl⟩ := okWide_slice Tryz.underlying22 hval
 obtain ⟨fuel, hf⟩ := h
 rcases open_slice Tryz.underlying22 hf with ⟨hcs, _⟩ | ⟨a, len', cap', m, n, D, Pl, hcs, _, hl, hm, hmm, hx, hi⟩
 ·simp [Value.cells] at hcs
  obtain ⟨rfl, rfl, rfl⟩ := hcs
  exact ⟨[], ⟨⟨rfl, none, 0, rfl, by simp, (fun _ => ⟨rfl, rfl⟩), (fun h => by simp at h)⟩, by simp⟩, by simp, by simp⟩
 ·simp [Value.cells] at hcs
  obtain ⟨rfl, rfl, rfl⟩ := hcs
  simp only [if_true] at hmm
  have key : ∀ i, ∃ t : TxnV, i < len → (t.ok ∧ t.l.length ≤ 6000000000000) ∧ Ops W t.v t.l ∧ W.cell? ((a.add (i * 4)).add 0) = some (.int .i64 t.s) ∧ W.cell? ((a.add (i * 4)).add 1) = some (.int .i64 t.b) ∧ W.cell? ((a.add (i * 4)).add 2) = some (.int .i64 t.c) ∧ W.cell? ((a.add (i * 4)).add 3) = some t.v := fun i => by
   by_cases hlt : i < len
   ·obtain ⟨cs', hc, ht⟩ := hi i (by omega)
    rw [cellsTxn] at hc
    obtain ⟨_, hcl, hat⟩ := World.cells?_some hc
    obtain ⟨y0, y1, y2, y3, n', hy, _, h0, h1, h2, h3⟩ := Joins.trod_struct4 Tryz.underlying83 ht
    match cs', hcl with
    | [x0, x1, x2, x3], _ =>
     obtain ⟨s, e0, _, w0⟩ := DataW.trod_int Tryz.underlying3 h0
     obtain ⟨b, e1, _, w1⟩ := DataW.trod_int Tryz.underlying3 h1
     obtain ⟨c, e2, _, w2⟩ := DataW.trod_int Tryz.underlying3 h2
     have k1 : Tryz.prog.cellsOf 3 = 1 := by kernel_rfl
     have k3 : Tryz.prog.cellsOf 81 = 1 := by kernel_rfl
     simp [k1] at e0 e1 e2
     subst e0; subst e1; subst e2
     simp [k3] at h3
     obtain ⟨l, hlo, hok, hlw⟩ := ops_of_cells h3
     have hll := hlw (fun q hq => hwt q (by
      rw [show d = _ from congrArg Prod.fst hx]
      simp only [DataW.weights, Tryz.underlying22]
      refine List.mem_cons_of_mem _ (List.mem_append_left _ (weightsAll_mem (d := D i) ?_ (List.mem_map.2 ⟨i, List.mem_range.2 hlt, rfl⟩)))
      have hy1 := congrArg Prod.fst hy
      rw [show D i = _ from hy1]
      simp only [DataW.weights, Tryz.underlying83, DataW.weightsEach, List.map_cons, List.map_nil]
      simp [hq]))
     exact ⟨⟨s, b, c, x3, l⟩, fun _ => ⟨⟨⟨⟨bounds_i64 w0, bounds_i64 w1, bounds_i64 w2⟩, hok⟩, hll⟩, hlo, hat 0 (by omega), hat 1 (by omega), hat 2 (by omega), hat 3 (by omega)⟩⟩
   ·exact ⟨⟨0, 0, 0, .nilIface, []⟩, fun h => absurd h hlt⟩
  obtain ⟨O, hO⟩ := Classical.skolem.1 key
  have hlen : ((List.range len).map O).length = len := by simp
  have hel : ∀ (i : Nat) (h : i < ((List.range len).map O).length), ((List.range len).map O)[i] = O i := fun i h => by simp
  refine ⟨(List.range len).map O, ⟨?_, ?_⟩, ?_, ?_⟩
  ·generalize (List.range len).map O = l at *
   subst hlen
   refine ⟨txV_len l, some a, cap, rfl, ⟨hl, hm⟩, (fun h => by cases h), fun hn => ?_⟩
   obtain ⟨b, off, spot⟩ := a
   have hspot : spot = none := by
    have := (hO 0 hn).2.2.1
    simpa [Addr.add] using World.cell?_spot this
   subst hspot
   refine ⟨b, off, rfl, fun i hii => ?_⟩
   have hk : i / 4 < l.length := by omega
   obtain ⟨_, _, c0, c1, c2, c3⟩ := hO (i / 4) hk
   simp only [Addr.add_lit] at c0 c1 c2 c3
   obtain ⟨e0, e1, e2, e3⟩ := txV_at l (i / 4) hk
   rw [hel _ hk] at e0 e1 e2 e3
   have hm4 : i % 4 = 0 ∨ i % 4 = 1 ∨ i % 4 = 2 ∨ i % 4 = 3 := by omega
   rcases hm4 with h | h | h | h
   ·rw [show i = i / 4 * 4 from by omega, e0, ← c0]; rfl
   ·rw [show i = i / 4 * 4 + 1 from by omega, e1, ← c1, ← Nat.add_assoc]
   ·rw [show i = i / 4 * 4 + 2 from by omega, e2, ← c2, ← Nat.add_assoc]
   ·rw [show i = i / 4 * 4 + 3 from by omega, e3, ← c3, ← Nat.add_assoc]
  ·intro t ht
   obtain ⟨i, hi2, rfl⟩ := List.mem_map.1 ht
   exact (hO i (List.mem_range.1 hi2)).2.1
  ·intro t ht
   obtain ⟨i, hi2, rfl⟩ := List.mem_map.1 ht
   exact (hO i (List.mem_range.1 hi2)).1.1
  ·intro t ht
   obtain ⟨i, hi2, rfl⟩ := List.mem_map.1 ht
   exact (hO i (List.mem_range.1 hi2)).1.2
end

section
open Go.RowKit
def mkS (p : Nat → Bool) : Nat := ((List.range 64).filter p).foldl (fun s i => s ||| 2 ^ i) 0
theorem testBit_fold (l : List Nat) : ∀ (s i : Nat), (l.foldl (fun s i => s ||| 2 ^ i) s).testBit i = (s.testBit i || l.contains i) := by
 induction l with
 | nil => intro s i; simp
 | cons a l ih =>
  intro s i
  rw [List.foldl_cons, ih, Nat.testBit_or, Nat.testBit_two_pow, List.contains_cons, Bool.or_assoc]
  congr 2
  rw [Bool.eq_iff_iff, decide_eq_true_iff, beq_iff_eq]
  exact ⟨fun h => h.symm, fun h => h.symm⟩
theorem testBit_mkS (p : Nat → Bool) (i : Nat) : (mkS p).testBit i = (decide (i < 64) && p i) := by
 unfold mkS
 rw [testBit_fold, Nat.zero_testBit, Bool.false_or, Bool.eq_iff_iff]
 simp
theorem isSet_mkS (p : Nat → Bool) : IsSet (mkS p) := by
 apply isSet_of_bits
 intro i hi
 rw [testBit_mkS]
 have : ¬ i < 64 := by omega
 simp [this]
theorem mkS_eq {s : Nat} {p : Nat → Bool} (hs : IsSet s) (h : ∀ i, i < 64 → s.testBit i = p i) : s = mkS p := by
 apply set_ext hs (isSet_mkS p)
 intro i hi
 rw [testBit_mkS, h i hi]; simp [hi]
theorem mkS_congr {p q : Nat → Bool} (h : ∀ i, i < 64 → p i = q i) : mkS p = mkS q := by
 apply mkS_eq (isSet_mkS p)
 intro i hi
 rw [testBit_mkS, h i hi]; simp [hi]
theorem mkS_bits {s : Nat} (hs : IsSet s) : mkS (fun i => s.testBit i) = s := (mkS_eq hs fun _ _ => rfl).symm
theorem mkS_false : mkS (fun _ => false) = 0 := (mkS_eq (by unfold IsSet; omega) fun i _ => by simp).symm
theorem lst_mkS (p : Nat → Bool) : lst (mkS p) = (List.range 64).filter p := by
 unfold lst lstTo
 apply List.filter_congr
 intro i hi
 have : i < 64 := by simpa using hi
 rw [testBit_mkS]; simp [this]
abbrev Mat := Nat → Nat → Bool
def rowsA (R : Mat) : Array Value := ((List.range 64).map fun i => Value.int .u64 ((mkS (R i) : Nat) : Int)).toArray
theorem rowsA_size (R : Mat) : (rowsA R).size = 64 := by simp [rowsA]
theorem rowsA_at (R : Mat) {i : Nat} (hi : i < 64) : (rowsA R)[i]? = some (.int .u64 ((mkS (R i) : Nat) : Int)) := by
 simp [rowsA, hi]
def rowSet (R : Mat) (a : Nat) (p : Nat → Bool) : Mat := fun i => if i = a then p else R i
theorem rowsA_set (R : Mat) (a s : Nat) (p : Nat → Bool) (hs : s = mkS p) : (rowsA R).setIfInBounds a (.int .u64 (s : Int)) = rowsA (rowSet R a p) := by
 subst hs
 apply Array.ext_getElem?
 intro i
 by_cases hi : i < 64
 ·rw [rowsA_at _ hi, Array.getElem?_setIfInBounds]
  unfold rowSet
  by_cases e : a = i
  ·subst e; simp [rowsA_size, hi]
  ·rw [if_neg e, rowsA_at R hi, if_neg (fun h => e h.symm)]
 ·rw [Array.getElem?_eq_none (by rw [Array.size_setIfInBounds, rowsA_size]; omega), Array.getElem?_eq_none (by rw [rowsA_size]; omega)]
theorem rowsA_congr {R S : Mat} (h : ∀ i j, i < 64 → j < 64 → R i j = S i j) : rowsA R = rowsA S := by
 apply Array.ext_getElem?
 intro i
 by_cases hi : i < 64
 ·rw [rowsA_at _ hi, rowsA_at _ hi, mkS_congr fun j hj => h i j hi hj]
 ·rw [Array.getElem?_eq_none (by rw [rowsA_size]; omega), Array.getElem?_eq_none (by rw [rowsA_size]; omega)]
theorem rowsA_inj {R S : Mat} (h : rowsA R = rowsA S) : ∀ i j, i < 64 → j < 64 → R i j = S i j := by
 intro i j hi hj
 have h1 := rowsA_at R hi
 rw [h, rowsA_at S hi] at h1
 have h2 : mkS (R i) = mkS (S i) := by
  have := Option.some.inj h1
  simp at this; omega
 have h3 := congrArg (fun s => s.testBit j) h2
 simpa [testBit_mkS, hj] using h3
def RelAt (w : World) (g : Nat) (t : TypeId) (R : Mat) : Prop := w.heap[g]? = some (.cells (rowsA R) t (0, 0))
theorem RelAt.cell {w : World} {g : Nat} {t : TypeId} {R : Mat} (h : RelAt w g t R) {i : Nat} (hi : i < 64) : w.cell? ⟨g, i, none⟩ = some (.int .u64 ((mkS (R i) : Nat) : Int)) := by
 rw [cell_of_row w g i _ _ _ h, rowsA_at R hi]
theorem RelAt.free {w : World} {g : Nat} {t : TypeId} {R : Mat} (h : RelAt w g t R) (i : Nat) : w.frozen? ⟨g, i, none⟩ = false := frozen_of_row w g i _ _ h
theorem RelAt.lt {w : World} {g : Nat} {t : TypeId} {R : Mat} (h : RelAt w g t R) : g < w.heap.size := by
 by_cases h0 : g < w.heap.size
 ·exact h0
 ·unfold RelAt at h; rw [Array.getElem?_eq_none (Nat.le_of_not_lt h0)] at h; cases h
theorem RelAt.below {w w' : World} {g B : Nat} {t : TypeId} {R : Mat} (h : RelAt w g t R) (hb : Below B w w') (hB : g < B) : RelAt w' g t R := by
 unfold RelAt at *; rw [hb.block g hB, h]
theorem RelAt.store {w : World} {g : Nat} {t : TypeId} {R : Mat} (h : RelAt w g t R) (a s : Nat) (p : Nat → Bool) (hs : s = mkS p) :
  RelAt (w.setCell ⟨g, a, none⟩ (.int .u64 (s : Int))) g t (rowSet R a p) := by
 unfold RelAt at *
 rw [heap_setCell_same w g a _ t _ h, rowsA_set R a s p hs]
theorem RelAt.other {w : World} {g : Nat} {t : TypeId} {R : Mat} (h : RelAt w g t R) {k : Addr} (hk : g ≠ k.block) (v : Value) : RelAt (w.setCell k v) g t R := by
 unfold RelAt at *; rw [heap_setCell_other w k g v hk, h]
theorem RelAt.alloc {w : World} {g : Nat} {t : TypeId} {R : Mat} (h : RelAt w g t R) (o : Obj) : RelAt (w.alloc o) g t R := by
 have hl := RelAt.lt h
 unfold RelAt at *; rw [Below.heap_alloc w o g hl, h]
theorem RelAt.new (w : World) (t : TypeId) (R : Mat) : RelAt (w.alloc (.cells (rowsA R) t)) w.heap.size t R := heap_alloc_new w _
def noR : Mat := fun _ _ => false
theorem rowsA_none : rowsA noR = Array.replicate 64 (.int .u64 0) := by
 apply Array.ext_getElem?
 intro i
 by_cases hi : i < 64
 ·rw [rowsA_at _ hi, Array.getElem?_replicate, if_pos hi]
  have : mkS (noR i) = 0 := mkS_false
  rw [this]; rfl
 ·rw [Array.getElem?_eq_none (by rw [rowsA_size]; omega), Array.getElem?_eq_none (by simp; omega)]
theorem RelAt.made (w : World) (t : TypeId) (R : Mat) {cs : Array Value} {g : Nat} (hg : g = w.heap.size) (hc : cs = rowsA R) : RelAt (w.alloc (.cells cs t)) g t R := by
 subst hg hc; exact RelAt.new w t R
end

section
open Go.RowKit
def hasL (l : List Int) (n : Int) : Bool := l.any fun x => x == n
end

section
open Go.RowKit
def ofTo (l : List Int) : Nat → Nat
 | 0 => 0
 | m + 1 => 2 * ofTo l m + if hasL l (63 - (m : Int)) then 1 else 0
def ofL (l : List Int) : Nat := ofTo l 64
theorem ofTo_lt (l : List Int) : ∀ m, ofTo l m < 2 ^ m
 | 0 => by simp [ofTo]
 | m + 1 => by
  have := ofTo_lt l m
  simp only [ofTo, Nat.pow_succ]
  split <;> omega
theorem testBit_ofTo (l : List Int) : ∀ m i, m ≤ 64 → (ofTo l m).testBit i = (decide (i < m) && hasL l ((64 - m + i : Nat) : Int))
 | 0, i, _ => by simp [ofTo]
 | m + 1, i, hm => by
  have hb : (if hasL l (63 - (m : Int)) = true then 1 else 0) < 2 ^ 1 := by split <;> omega
  show (2 ^ 1 * ofTo l m + (if hasL l (63 - (m : Int)) = true then 1 else 0)).testBit i = _
  rw [Nat.testBit_two_pow_mul_add _ hb]
  by_cases h0 : i = 0
  ·subst h0
   have e : ((64 - (m + 1) + 0 : Nat) : Int) = 63 - (m : Int) := by omega
   rw [e]
   cases hasL l (63 - (m : Int)) <;> simp
  ·rw [if_neg (by omega), testBit_ofTo l m (i - 1) (by omega)]
   have e : 64 - m + (i - 1) = 64 - (m + 1) + i := by omega
   rw [e]
   congr 1
   simp; omega
theorem testBit_ofL (l : List Int) (i : Nat) : (ofL l).testBit i = (decide (i < 64) && hasL l (i : Int)) := by
 unfold ofL
 rw [testBit_ofTo l 64 i (by omega)]; simp
theorem isSet_ofL (l : List Int) : IsSet (ofL l) := by
 rw [isSet_iff]; exact ofTo_lt l 64
def setL (l : List Int) : Nat := l.foldl withS 0
theorem testBit_foldl (l : List Int) : ∀ (s : Nat) (i : Nat), i < 64 → (l.foldl withS s).testBit i = (s.testBit i || hasL l (i : Int)) := by
 induction l with
 | nil => intro s i _; simp [hasL]
 | cons a l ih =>
  intro s i hi
  rw [List.foldl_cons, ih _ i hi, testBit_withS]
  unfold hasL
  rw [List.any_cons, Bool.or_assoc]
  congr 2
  rw [Bool.eq_iff_iff]; simp; omega
theorem isSet_foldl (l : List Int) : ∀ (s : Nat), IsSet s → IsSet (l.foldl withS s) := by
 induction l with
 | nil => intro s h; exact h
 | cons a l ih => intro s h; exact ih _ (isSet_withS h)
theorem isSet_setL (l : List Int) : IsSet (setL l) := isSet_foldl l 0 (by unfold IsSet; omega)
theorem setL_eq (l : List Int) : setL l = ofL l := by
 apply set_ext (isSet_setL l) (isSet_ofL l)
 intro i hi
 rw [testBit_ofL, setL, testBit_foldl l 0 i hi]; simp [hi]
end

section
open Go.RowKit
theorem infoInt : (Tryz.prog.info? 3).map (fun i => (i.zero, i.size, i.bytes)) = some (some (.int .i64 0), 1, 8) := by kernel_rfl
theorem below_app {B : Nat} {W wr w1 : World} {o : Obj} {e : TypeId} {n size : Nat} {v : Value} {xs : List Value} (hb : Below B W wr) (hB : B ≤ W.heap.size) (hown : wr.ownsRow B e size v n xs)
  (hg : (wr.alloc o).grownBy w1 v.ownBlock) : Below B W w1 :=
 (hb.alloc (Nat.le_trans hB hb.size) o).grown hg (by have := hb.size; simp; omega) fun k hk => (hown.lt k hk).1
end

section
open Go.RowKit
theorem lst_step {S c : Nat} {acc : List Nat} (hl : lst S = acc ++ lst c) (hne : lst c ≠ []) : lst S = (acc ++ [fst c]) ++ lst (woS c (fst c : Int)) := by
 rw [hl, List.append_assoc, List.singleton_append, ← lst_cons hne]
theorem lst_less {c : Nat} (hne : lst c ≠ []) : (lst (woS c (fst c : Int))).length < (lst c).length := by
 have := congrArg List.length (lst_cons hne)
 simp at this; omega
theorem list_any (s : Nat) (w : World) (hs : IsSet s) (ht : Tab w) :
  Calls Tryz.prog 229 #[.int .u64 (s : Int)] w fun e w' => ∃ v, e = .returned v ∧ w'.ownsRow w.heap.size 3 1 v (lst s).length ((lst s).map fun i : Nat => Value.int .i64 (i : Int)) ∧ Below w.heap.size w w' := by
 obtain ⟨i0, hi, hz0, hz1, hz2⟩ := info_parts infoInt
 obtain ⟨B, hB⟩ : ∃ B, B = w.heap.size := ⟨_, rfl⟩
 rw [← hB]
 have HB : Hid (B = w.heap.size) := hid hB
 have hB' : B ≤ w.heap.size := by omega
 have hgB : 3 < B := by have := ht.pos; omega
 clear hB
 have hT : ∀ wr, Below B w wr → Tab wr := fun wr hb => ht.below hb hgB
 have HT := hid hT; clear hT
 have hle : (lst s).length ≤ 64 := lstTo_len s 64
 go_enter Tryz.func229, Tryz.ntmps229
 go_wp2_with (first
  | (go_at_call 261; refine (scount_any _ _ hs).mono ?_; rintro e w' ⟨rfl, rfl⟩)
  | (at_make; refine wpList_make_own _ rfl _ _ 24 rfl B 3 i0 (.int .i64 0) 1 Tryz.underlying24 hi hz0 hz1 _ _ _ (lst s).length rfl rfl rfl ?b1 ?b2 ?b3 ?_))
 case b1 => rw [hz2]; omega
 case b2 => unfold maxLen; omega
 case b3 => exact hB'
 intro w1 hown0 hg0
 have hb0 : Below B w w1 := (Below.refl B w).grown hg0 hB' (by simp)
 clear hg0
 go_wp2_with fail
 go_loopw [0, 3] (fun v x wr => ∃ (c : Nat) (acc : List Nat), IsSet c ∧ v = .int .u64 (c : Int) ∧ lst s = acc ++ lst c ∧ wr.ownsRow B 3 1 x acc.length (acc.map fun i : Nat => Value.int .i64 (i : Int)) ∧ Below B w wr)
  (fun v _ _ => (lst (intOf v).toNat).length)
 case atStart => exact ⟨s, [], hs, rfl, by simp, hown0, hb0⟩
 case round =>
  obtain ⟨c, acc, hc, rfl, hl, hown, hb⟩ := hrel
  have hsz := hb.size
  have hal : acc.length ≤ 64 := by have := congrArg List.length hl; simp at this; omega
  have HL := hid hl; clear hl
  have HTr : Hid (Tab _) := hid (HT.out _ hb)
  rcases Nat.eq_zero_or_pos c with h0 | h0
  ·subst h0
   have hacc : Hid (acc = lst s) := hid (by rw [HL.out, lst_zero, List.append_nil])
   go_wp2
   go_ret
   exact ⟨_, rfl, by rw [← hacc.out]; exact hown, hb⟩
  ·have hne := lst_ne hc h0
   have hwo := isSet_woS (n := (fst c : Int)) hc
   have HS := hid (lst_step HL.out hne)
   have HD := hid (lst_less hne)
   have hfl := fst_lt hne
   clear hne
   go_wp2_with (first
    | (go_at_call 262; refine (first_any c _ hc HTr.out).mono ?_; rintro e w' ⟨rfl, rfl⟩)
    | (at_builtin; refine wpList_append_own _ rfl _ _ 24 rfl B 3 i0 (.int .i64 0) 1 8 Tryz.underlying24 hi hz0 hz1 hz2 rfl (by decide) _ _ _ rfl (hown.alloc _) ⟨_, 0, none⟩ 1 1 [.int .i64 (fst c : Int)] rfl rfl ?c1 ?c2 ?c3 ?c4 ?c5 ?_))
   case c1 => exact cell_one_new _ _ _
   case c2 => intro u hu; simp at hu; subst hu; rfl
   case c3 => unfold maxLen; omega
   case c4 => omega
   case c5 => simp; omega
   intro v' w2 hown' hgrow _
   have hb' := below_app hb hB' hown hgrow
   have HT2 : Hid (Tab w2) := hid (HT.out _ hb')
   clear hown hb hgrow
   go_wp2_with (first
    | (go_at_call 262; refine (first_any c _ hc HT2.out).mono ?_; rintro e w' ⟨rfl, rfl⟩)
    | (go_at_call 233; refine (wo_any c _ _ hc).mono ?_; rintro e w' ⟨rfl, rfl⟩))
   go_roundw
   case rel => exact ⟨woS c (fst c : Int), acc ++ [fst c], hwo, rfl, HS.out, by simpa using hown', hb'⟩
   case measure => simpa [intOf] using HD.out
end

section
open Go.RowKit
theorem ints_nat (l : List Nat) : (l.map fun i : Nat => Value.int .i64 (i : Int)) = (l.map Int.ofNat).map (Value.int .i64) := by rw [List.map_map]; rfl
theorem Ints.of_nats {w : World} {base : Nat} {e : TypeId} {v : Value} {n : Nat} {l : List Nat} (h : w.ownsRow base e 1 v n (l.map fun i : Nat => Value.int .i64 (i : Int))) : Ints w v (l.map Int.ofNat) := by
 rw [ints_nat] at h; exact Ints.of_owns h
end

section
open Go.RowKit
def mayB (n : Int) : Bool := decide (0 ≤ n ∧ n < 64)
theorem rmayn_any (n : Int) (w : World) :
  Calls Tryz.prog 147 #[.int .i64 n] w fun e w' => e = .returned (.bool (mayB n)) ∧ w = w' := by
 have H : Hid ((decide (0 ≤ n) && decide (n < 64)) = mayB n) := hid (by unfold mayB; simp)
 by_cases h0 : 0 ≤ n
 ·have H1 : Hid (decide (n < 64) = mayB n) := hid (by rw [← H.out]; simp [h0])
  go_enter Tryz.func147, Tryz.ntmps147
  go_wp2
  go_ret
  exact ⟨ret_b H1.out, rfl⟩
 ·have H1 : Hid (false = mayB n) := hid (by rw [← H.out]; simp [h0])
  go_enter Tryz.func147, Tryz.ntmps147
  go_wp2
  go_ret
  exact ⟨ret_b H1.out, rfl⟩
theorem may_yes (n : Int) (w : World) (h : 0 ≤ n ∧ n < 64) : Calls Tryz.prog 147 #[.int .i64 n] w fun e w' => e = .returned (.bool true) ∧ w = w' := by
 have := rmayn_any n w
 rwa [show mayB n = true from by unfold mayB; simp [h]] at this
theorem may_no (n : Int) (w : World) (h : ¬ (0 ≤ n ∧ n < 64)) : Calls Tryz.prog 147 #[.int .i64 n] w fun e w' => e = .returned (.bool false) ∧ w = w' := by
 have := rmayn_any n w
 rwa [show mayB n = false from by unfold mayB; simp [h]] at this
def hasR (R : Mat) (a b : Int) : Bool := mayB a && hasB (mkS (R a.toNat)) b
theorem rhasR_any (R : Mat) (a b : Int) (w : World) :
  Calls Tryz.prog 225 #[.agg (rowsA R), .int .i64 a, .int .i64 b] w fun e w' => e = .returned (.bool (hasR R a b)) ∧ Below w.heap.size w w' := by
 by_cases ha : 0 ≤ a ∧ a < 64
 ·obtain ⟨i, rfl⟩ := Int.eq_ofNat_of_zero_le ha.1
  have hi : i < 64 := by omega
  have CM := hid (fun wx => may_yes (i : Int) wx ha)
  have HR : Hid (hasB (mkS (R i)) b = hasR R (i : Int) b) := hid (by unfold hasR mayB; simp [ha])
  have hc := (RelAt.new w 108 R).cell hi
  have hset := isSet_mkS (R i)
  clear ha
  generalize mkS (R i) = s at *
  go_enter Tryz.func225, Tryz.ntmps225
  go_wp2_with (first
   | (go_at_call 147; refine (CM.out _).mono ?_; rintro e w' ⟨rfl, rfl⟩)
   | (go_at_call 173; refine (has_any s b _ hset).mono ?_; rintro e w' ⟨rfl, rfl⟩))
  go_ret
  exact ⟨ret_b HR.out, (Below.refl _ _).alloc (Nat.le_refl _) _⟩
 ·have CM := hid (fun wx => may_no a wx ha)
  have HR : Hid (false = hasR R a b) := hid (by unfold hasR mayB; simp [ha])
  clear ha
  go_enter Tryz.func225, Tryz.ntmps225
  go_wp2_with (go_at_call 147; refine (CM.out _).mono ?_; rintro e w' ⟨rfl, rfl⟩)
  go_ret
  exact ⟨ret_b HR.out, (Below.refl _ _).alloc (Nat.le_refl _) _⟩
theorem infoRel : (Tryz.prog.info? 108).map (·.size) = some 64 := by kernel_rfl
theorem infoRel' (R : Mat) : (Tryz.prog.info? 108).map (·.size) = some (rowsA R).size := by rw [rowsA_size]; exact infoRel
theorem rows_one (R : Mat) : (rowsA R).all (·.oneCell') = true := by
 rw [Array.all_eq_true_iff_forall_mem]
 intro v hv
 have : v ∈ (rowsA R).toList := by simpa using hv
 simp only [rowsA, List.toList_toArray, List.mem_map] at this
 obtain ⟨i, _, rfl⟩ := this
 rfl
theorem RelAt.setRow {w : World} {g : Nat} {t : TypeId} {R : Mat} (h : RelAt w g t R) (S : Mat) : RelAt (w.setRow g (rowsA S)) g t S := setRow_heap w g _ _ t _ h
theorem wpList_load_rel {ops : Array Oper} {rest : List Oper} {o : Oper} {a : Act} {w : World} {Q : Exit → Act → World → Prop} {g : Nat} {R : Mat} (h : RelAt w g 108 R) (hgd : o.guard = none) (x : Operand) (ho : o.op = .load 108 x)
  (hx : a.eval x = .pointer (some ⟨g, 0, none⟩)) (hn : wpList Tryz.prog ops Q rest (a.put o.dst (.agg (rowsA R))) w) : wpList Tryz.prog ops Q (o :: rest) a w :=
 wpList_load_row hgd 108 x ho g hx _ (rowsA R) _ _ h Tryz.underlying108 rfl (infoRel' _) hn
theorem wpList_store_rel {ops : Array Oper} {rest : List Oper} {o : Oper} {a : Act} {w : World} {Q : Exit → Act → World → Prop} {g : Nat} {S : Mat} (h : RelAt w g 108 S) (R : Mat) (hgd : o.guard = none) (x y : Operand) (ho : o.op = .store 108 x y)
  (hx : a.eval x = .pointer (some ⟨g, 0, none⟩)) (hy : a.eval y = .agg (rowsA R)) (hn : wpList Tryz.prog ops Q rest (a.put o.dst undef) (w.setRow g (rowsA R))) : wpList Tryz.prog ops Q (o :: rest) a w :=
 wpList_store_row hgd 108 x y ho g (rowsA R) hx hy _ _ h (infoRel' _) (by rw [rowsA_size, rowsA_size]) (rows_one _) hn
theorem results_rel {fn : Func} {p : Tmp} (h : fn.results = #[.cell p 108]) (tmps : Array Value) (w : World) (g : Nat) (R : Mat)
  (hp : tmps.getD p undef = .pointer (some ⟨g, 0, none⟩)) (hg : RelAt w g 108 R) : (results fn tmps).run Tryz.prog w = .ok (.agg (rowsA R)) w :=
 results_cell_row h tmps w g _ (rowsA R) _ _ hp hg Tryz.underlying108 rfl (infoRel' _)
theorem RelAt.setRow' {w : World} {g : Nat} {t : TypeId} {R : Mat} (h : RelAt w g t R) {S S' : Mat} (e : rowsA S = rowsA S') : RelAt (w.setRow g (rowsA S)) g t S' := by
 have := h.setRow S
 unfold RelAt at *
 rw [this, e]
def orR (R S : Mat) : Mat := fun i j => R i j || S i j
def orTo (R S : Mat) (k : Nat) : Mat := fun i j => if i < k then R i j || S i j else R i j
theorem mkS_or (p q : Nat → Bool) : mkS p ||| mkS q = mkS fun j => p j || q j := by
 apply mkS_eq (isSet_or (isSet_mkS p) (isSet_mkS q))
 intro i hi
 rw [Nat.testBit_or, testBit_mkS, testBit_mkS]; simp [hi]
theorem orTo_step (R S : Mat) (k : Nat) : rowSet (orTo R S k) k (fun j => R k j || S k j) = orTo R S (k + 1) := by
 funext i j
 unfold rowSet orTo
 by_cases h : i = k
 ·subst h; simp
 ·rw [if_neg h]
  by_cases h2 : i < k
  ·rw [if_pos h2, if_pos (by omega)]
  ·rw [if_neg h2, if_neg (by omega)]
theorem orTo_at (R S : Mat) (k : Nat) : orTo R S k k = R k := by funext j; unfold orTo; rw [if_neg (by omega)]
theorem orTo_end (R S : Mat) : rowsA (orTo R S 64) = rowsA (orR R S) := rowsA_congr fun i j hi _ => by unfold orTo orR; rw [if_pos hi]
theorem u64_or (p q : Nat → Bool) : Go.bits .or .u64 ((mkS p : Nat) : Int) ((mkS q : Nat) : Int) = ((mkS (fun j => p j || q j) : Nat) : Int) := by
 rw [Go.bits_or_u64_nat _ _ (isSet_mkS p) (isSet_mkS q), mkS_or]
theorem union_any (R S : Mat) (w : World) :
  Calls Tryz.prog 224 #[.agg (rowsA R), .agg (rowsA S)] w fun e w' => e = .returned (.agg (rowsA (orR R S))) ∧ Below w.heap.size w w' := by
 go_enter Tryz.func224, Tryz.ntmps224
 go_wp2
 go_loopw [6] (fun i wr => ∃ k : Nat, k ≤ 64 ∧ i = .int .i64 k ∧ RelAt wr w.heap.size 108 (orTo R S k) ∧ RelAt wr (w.heap.size + 1) 108 S ∧ RelAt wr (w.heap.size + 2) 108 noR ∧ Below w.heap.size w wr)
  (fun i _ => 64 - (intOf i).toNat)
 case atStart =>
  have e0 : rowsA R = rowsA (orTo R S 0) := rowsA_congr fun i j _ _ => by unfold orTo; rw [if_neg (by omega)]
  refine ⟨0, by omega, rfl, ?_, ?_, ?_, ?_⟩
  ·exact ((RelAt.made w _ (orTo R S 0) rfl e0).alloc _).alloc _
  ·exact (RelAt.made _ _ S (by simp) rfl).alloc _
  ·exact RelAt.made _ _ noR (by simp) (by rw [rowsA_none]; rfl)
  ·exact (((Below.refl w.heap.size w).alloc (Nat.le_refl _) _).alloc (by simp) _).alloc (by simp; omega) _
 case round =>
  obtain ⟨k, hk, rfl, h0, h1, h2, hb⟩ := hrel
  by_cases hlt : k < 64
  ·have hc0 := h0.cell hlt
   have hc1 := h1.cell hlt
   rw [orTo_at] at hc0
   have hf := h0.free k
   have HO := u64_or (R k) (S k)
   have HS := hid (orTo_step R S k)
   have HN := hid (h0.store k _ (fun j => R k j || S k j) rfl)
   have H1 := hid (h1.other (k := ⟨w.heap.size, k, none⟩) (by simp) (.int .u64 ((mkS (fun j => R k j || S k j) : Nat) : Int)))
   have H2 := hid (h2.other (k := ⟨w.heap.size, k, none⟩) (by simp) (.int .u64 ((mkS (fun j => R k j || S k j) : Nat) : Int)))
   have HB := hid (hb.setCell (p := ⟨w.heap.size, k, none⟩) (Nat.le_refl _) (.int .u64 ((mkS (fun j => R k j || S k j) : Nat) : Int)))
   clear h0 h1 h2 hb
   generalize mkS (fun j => R k j || S k j) = z at *
   generalize mkS (R k) = x at *
   generalize mkS (S k) = y at *
   go_wp2
   go_still_tail 8, (by kernel_rfl)
   go_wp2
   go_roundw
   case rel => exact ⟨k + 1, by omega, by go_num, by rw [← HS.out]; exact HN.out, H1.out, H2.out, HB.out.drew⟩
   case measure => simp [intOf]; omega
  ·have hk64 : k = 64 := by omega
   subst hk64
   go_wp2_with (first
    | (with_reducible refine wpList_load_rel h0 rfl _ rfl rfl ?_)
    | (with_reducible refine wpList_store_rel h2 (orTo R S 64) rfl _ _ rfl rfl rfl ?_))
   have h3 := h2.setRow (orTo R S 64)
   rw [orTo_end] at h3
   exact bodyPost_ret (results_rel rfl _ _ _ _ rfl h3) rfl ⟨rfl, below_setRow hb (by omega) _⟩
end

section
open Go.RowKit
theorem infoSet : (Tryz.prog.info? 106).map (·.size) = some 1 := by kernel_rfl
theorem run_index_rel (R : Mat) (k : Nat) (hk : k < 64) (w : World) :
  (Instr.index 108 (.agg (rowsA R)) (.int .i64 (k : Int))).run Tryz.prog w = .ok (.int .u64 ((mkS (R k) : Nat) : Int)) w := by
 have h1 := rowsA_at R hk
 obtain ⟨i, hi, hs⟩ := Option.map_eq_some_iff.1 infoSet
 simp [Instr.index, asIntOf, Sem.run_bind, run_underlying Tryz.underlying108 w, hk, sizeOf, typeInfo, hi, hs, part, isAgg, h1]
def inMTo (R S : Mat) (k : Nat) : Bool := (List.range k).all fun i => inB (mkS (R i)) (mkS (S i))
def inM (R S : Mat) : Bool := inMTo R S 64
theorem hasB_mkS (p : Nat → Bool) (n : Nat) (hn : n < 64) : hasB (mkS p) (n : Int) = p n := by
 unfold hasB
 have h : 0 ≤ (n : Int) ∧ (n : Int) < 64 := by omega
 rw [Int.toNat_natCast, testBit_mkS]
 simp [h, hn]
end

section
open Go.RowKit
def turnR (R : Mat) : Mat := fun i j => R j i
def turnTo (R : Mat) (a : Nat) (p : Nat → Bool) : Mat := fun i j => (decide (j < a) && R j i) || (decide (j = a) && p i)
theorem withS_mkS (q : Nat → Bool) (a : Nat) (ha : a < 64) : withS (mkS q) (a : Int) = mkS fun j => q j || decide (j = a) := by
 apply mkS_eq (isSet_withS (isSet_mkS q))
 intro i hi
 rw [testBit_withS, testBit_mkS]
 have h : 0 ≤ (a : Int) ∧ (a : Int) < 64 := by omega
 simp only [hi, h, decide_true, Bool.true_and, and_self, Int.toNat_natCast]
 congr 1
 rw [Bool.eq_iff_iff]; simp; exact ⟨fun h => h.symm, fun h => h.symm⟩
theorem turnTo_step (R : Mat) (a b : Nat) (p : Nat → Bool) : rowSet (turnTo R a p) b (fun j => turnTo R a p b j || decide (j = a)) = turnTo R a (fun i => p i || decide (i = b)) := by
 funext i j
 unfold rowSet turnTo
 by_cases e : i = b
 ·subst e
  by_cases h : j = a
  ·subst h; simp
  ·simp [h]
 ·rw [if_neg e]; simp [e]
theorem turnTo_next (R : Mat) (a : Nat) (p : Nat → Bool) (h : ∀ i, i < 64 → p i = R a i) : rowsA (turnTo R a p) = rowsA (turnTo R (a + 1) fun _ => false) := by
 apply rowsA_congr
 intro i j hi hj
 unfold turnTo
 by_cases e : j = a
 ·subst e; simp [h i hi]
 ·by_cases h2 : j < a
  ·have : j < a + 1 := by omega
   simp [h2, this, e]
  ·have : ¬ j < a + 1 := by omega
   simp [h2, this, e]
theorem turnTo_start (R : Mat) : rowsA noR = rowsA (turnTo R 0 fun _ => false) := rowsA_congr fun i j _ _ => by unfold turnTo noR; simp
theorem turnTo_end (R : Mat) : rowsA (turnTo R 64 fun _ => false) = rowsA (turnR R) := rowsA_congr fun i j _ hj => by unfold turnTo turnR; simp [hj]
theorem any_take (L : List Nat) (k : Nat) (hk : k < L.length) (i : Nat) : (L.take (k + 1)).contains i = ((L.take k).contains i || decide (i = L[k])) := by
 rw [Bool.eq_iff_iff, Bool.or_eq_true, List.contains_iff_mem, List.contains_iff_mem, List.take_succ_eq_append_getElem hk, List.mem_append, List.mem_singleton, decide_eq_true_iff]
theorem lst_mem_mkS (p : Nat → Bool) (i : Nat) (hi : i < 64) : (lst (mkS p)).contains i = p i := by
 rw [lst_mkS, Bool.eq_iff_iff]; simp [hi]
theorem lst_lt {s k : Nat} (hk : k < (lst s).length) : (lst s)[k] < 64 := (mem_lst.1 (List.getElem_mem hk)).1
theorem turned_any (R : Mat) (w : World) (ht : Tab w) :
  Calls Tryz.prog 180 #[.agg (rowsA R)] w fun e w' => e = .returned (.agg (rowsA (turnR R))) ∧ Below w.heap.size w w' := by
 have hg := ht.pos
 have HT : Hid (∀ wx, Below w.heap.size w wx → Tab wx) := hid (fun wx hb => ht.below hb hg)
 clear ht
 obtain ⟨B, hB⟩ : ∃ B, B = w.heap.size := ⟨_, rfl⟩
 have h0 : RelAt (w.alloc (.cells (rowsA R) 108)) B 108 R := RelAt.made w _ R hB rfl
 subst hB
 go_enter Tryz.func180, Tryz.ntmps180
 go_wp2_with (with_reducible refine wpList_load_rel ((h0.alloc _).alloc _) rfl _ rfl rfl ?_)
 go_loopw [9] (fun i wr => ∃ a : Nat, a ≤ 64 ∧ i = .int .i64 a ∧ RelAt wr (w.heap.size + 2) 108 (turnTo R a fun _ => false) ∧ RelAt wr (w.heap.size + 1) 108 noR ∧ Below w.heap.size w wr)
  (fun i _ => 64 - (intOf i).toNat)
 case atStart =>
  refine ⟨0, by omega, rfl, ?_, ?_, ?_⟩
  ·exact RelAt.made _ _ _ (by simp) (by rw [← turnTo_start, rowsA_none]; rfl)
  ·exact (RelAt.made _ _ noR (by simp) (by rw [rowsA_none]; rfl)).alloc _
  ·exact (((Below.refl w.heap.size w).alloc (Nat.le_refl _) _).alloc (by simp) _).alloc (by simp; omega) _
 case round =>
  obtain ⟨a, ha, rfl, h2, h1, hb⟩ := hrel
  by_cases hlt : a < 64
  ·have hidx := fun wx => run_index_rel R a hlt wx
   have hda : decide ((a : Int) < 64) = true := by simp; omega
   have HNX := hid (turnTo_next R a ((lst (mkS (R a))).contains ·) (fun i hi => lst_mem_mkS _ i hi))
   have hset := isSet_mkS (R a)
   have hlen := lstTo_len (mkS (R a)) 64
   have HL : Hid (∀ (k : Nat) (hk : k < (lst (mkS (R a))).length), (lst (mkS (R a)))[k] < 64) := hid (fun k hk => lst_lt hk)
   have hlen' : (lst (mkS (R a))).length ≤ 64 := hlen
   clear hlen
   generalize mkS (R a) = x at *
   have hal : (a : Int) < 64 := by omega
   go_wp2_with fail
   refine (list_any x wr hset (HT.out _ hb)).mono ?_
   rintro e w1 ⟨v, rfl, hown, hb1⟩
   have h2' := h2.below hb1 h2.lt
   have h1' := h1.below hb1 h1.lt
   have hbb := hb.trans (hb1.mono hb.size)
   have hD : w.heap.size + 2 < wr.heap.size := h2.lt
   clear hb1 hb h1 h2 hset
   generalize wr.heap.size = D at *
   generalize lst x = L at *
   obtain ⟨ao, cap, rfl, hml⟩ := (Ints.of_nats hown).form
   rw [List.length_map] at *
   go_wp2_with fail
   go_loopw [16] (fun i wx => ∃ k : Nat, k ≤ L.length ∧ i = .int .i64 k ∧ RelAt wx (w.heap.size + 2) 108 (turnTo R a ((L.take k).contains ·)) ∧ RelAt wx (w.heap.size + 1) 108 noR ∧ Below w.heap.size w wx ∧ wx.ownsRow D 3 1 (.slice ao L.length cap) L.length (L.map fun i : Nat => Value.int .i64 (i : Int)))
    (fun i _ => L.length - (intOf i).toNat)
   case atStart => exact ⟨0, by omega, rfl, h2', h1', hbb, hown⟩
   case round =>
    obtain ⟨k, hk, rfl, hx2, hx1, hxb, hxo⟩ := hrel
    by_cases hlk : k < L.length
    ·obtain ⟨p, off, hao, hc⟩ := (Ints.of_nats hxo).at (k := k) (by simpa using hlk)
     cases hao
     rw [List.getElem_map] at hc
     have hbl := HL.out k hlk
     have hbi : (L[k] : Int) < 64 := by omega
     have HQ := hid (any_take L k hlk)
     have HStep := hid (turnTo_step R a L[k] ((L.take k).contains ·))
     generalize L[k] = b at *
     have hcb := hx2.cell hbl
     have hf := hx2.free b
     have hM := hid (withS_mkS (turnTo R a ((L.take k).contains ·) b) a hlt)
     have hset := isSet_mkS (turnTo R a ((L.take k).contains ·) b)
     have HN := hid (hx2.store b _ (fun j => turnTo R a ((L.take k).contains ·) b j || decide (j = a)) hM.out)
     have H1 := hid (fun v => hx1.other (k := ⟨w.heap.size + 2, b, none⟩) (by simp) v)
     have HB := hid (fun v => hxb.setCell (p := ⟨w.heap.size + 2, b, none⟩) (by simp) v)
     have HI := hid (fun v => ownsRow_setCell_below hxo (a := ⟨w.heap.size + 2, b, none⟩) hD v)
     clear hx2 hx1 hxb hxo
     generalize mkS (turnTo R a ((L.take k).contains ·) b) = y at *
     change World.cell? _ ⟨p, off + k, none⟩ = some (.int .i64 (b : Int)) at hc
     go_wp2_with (go_at_call 106; refine (with_any y (a : Int) _ hset).mono ?_; rintro e w' ⟨rfl, rfl⟩)
     go_roundw
     case rel =>
      refine ⟨k + 1, by omega, by go_num, ?_, H1.out _, HB.out _, HI.out _⟩
      have h := HN.out
      rw [HStep.out, ← funext HQ.out] at h
      exact h
     case measure => simp [intOf]; omega
    ·have hkL : k = L.length := by omega
     subst hkL
     have HX : Hid (RelAt _ (w.heap.size + 2) 108 (turnTo R (a + 1) fun _ => false)) := hid (by
      rw [List.take_length] at hx2
      unfold RelAt at *
      rw [← HNX.out]; exact hx2)
     clear hx2 hxo
     go_wp2
     go_roundw
     case rel => exact ⟨a + 1, by omega, by go_num, HX.out, hx1, hxb⟩
     case measure => simp [intOf]; omega
  ·have ha64 : a = 64 := by omega
   subst ha64
   go_wp2_with (first
    | (with_reducible refine wpList_load_rel h2 rfl _ rfl rfl ?_)
    | (with_reducible refine wpList_store_rel h1 (turnTo R 64 fun _ => false) rfl _ _ rfl rfl rfl ?_))
   have h3 := h1.setRow' (turnTo_end R)
   exact bodyPost_ret (results_rel rfl _ _ _ _ rfl h3) rfl ⟨rfl, below_setRow hb (by omega) _⟩
end

section
open Go.RowKit
def thenR (R S : Mat) : Mat := fun i j => (List.range 64).any fun m => R i m && S m j
end

section
open Go.RowKit
def addM (R : Mat) (a b : Int) : Mat := if mayB a = true ∧ mayB b = true then rowSet R a.toNat (fun j => R a.toNat j || decide (j = b.toNat)) else R
theorem add_yes (R : Mat) (g : Nat) (a b : Nat) (w : World) (h : RelAt w g 108 R) (ha : a < 64) (hb : b < 64) :
  Calls Tryz.prog 107 #[.pointer (some ⟨g, 0, none⟩), .int .i64 (a : Int), .int .i64 (b : Int)] w fun e w' => e = .returned (.bool true) ∧ RelAt w' g 108 (rowSet R a (fun j => R a j || decide (j = b))) ∧ w.grownBy w' (some g) := by
 have hma : mayB (a : Int) = true := by unfold mayB; simp; omega
 have hmb : mayB (b : Int) = true := by unfold mayB; simp; omega
 have hc := h.cell ha
 have hf := h.free a
 have hM := hid (withS_mkS (R a) b hb)
 have hset := isSet_mkS (R a)
 have hlt := h.lt
 have HN := hid (h.store a _ (fun j => R a j || decide (j = b)) hM.out)
 have CW : ∀ wx, Calls Tryz.prog 106 #[.int .u64 ((mkS (R a) : Nat) : Int), .int .i64 (b : Int)] wx fun e w' => e = .returned (.int .u64 ((withS (mkS (R a)) (b : Int) : Nat) : Int)) ∧ w' = wx :=
  fun wx => (with_any _ _ wx hset).mono fun _ _ h => ⟨h.1, h.2.symm⟩
 have HG : Hid (w.grownBy (w.setCell ⟨g, a, none⟩ (.int .u64 ((withS (mkS (R a)) (b : Int) : Nat) : Int))) (some g)) :=
  hid ⟨rfl, rfl, rfl, by simp, fun k _ hk => Below.heap_setCell w ⟨g, a, none⟩ _ k (fun e => hk (by rw [e]))⟩
 have CWH := hid CW
 clear CW h
 generalize mkS (R a) = x at *
 generalize withS x (b : Int) = z at *
 have hai : (a : Int) < 64 := by omega
 go_enter Tryz.func107, Tryz.ntmps107
 go_wp2_with (go_at_call 147; refine (rmayn_any _ _).mono ?_; rintro e w' ⟨rfl, rfl⟩)
 go_still_tail 11, (by kernel_rfl)
 still_call (CWH.out _)
 repeat still_step
 refine wpStill_nil ?_
 go_wp2
 go_ret
 exact ⟨rfl, HN.out, ⟨HG.out.os, HG.out.tape, HG.out.output, HG.out.size, HG.out.block⟩⟩
theorem add_no (R : Mat) (g : Nat) (a b : Int) (w : World) (h : RelAt w g 108 R) (hab : ¬ (mayB a = true ∧ mayB b = true)) :
  Calls Tryz.prog 107 #[.pointer (some ⟨g, 0, none⟩), .int .i64 a, .int .i64 b] w fun e w' => e = .returned (.bool false) ∧ RelAt w' g 108 R ∧ w.grownBy w' (some g) := by
 have HR := hid h
 clear h
 cases ha : mayB a
 ·clear hab
  go_enter Tryz.func107, Tryz.ntmps107
  go_wp2_with (go_at_call 147; refine (rmayn_any _ _).mono ?_; rintro e w' ⟨rfl, rfl⟩)
  go_ret
  exact ⟨rfl, HR.out, World.grownBy.refl _ _⟩
 ·have hb : mayB b = false := by cases hb : mayB b <;> simp_all
  clear hab
  go_enter Tryz.func107, Tryz.ntmps107
  go_wp2_with (go_at_call 147; refine (rmayn_any _ _).mono ?_; rintro e w' ⟨rfl, rfl⟩)
  go_ret
  exact ⟨rfl, HR.out, World.grownBy.refl _ _⟩
theorem mayB_iff (n : Int) : mayB n = true ↔ 0 ≤ n ∧ n < 64 := by unfold mayB; simp
theorem add_any (R : Mat) (g : Nat) (a b : Int) (w : World) (h : RelAt w g 108 R) :
  Calls Tryz.prog 107 #[.pointer (some ⟨g, 0, none⟩), .int .i64 a, .int .i64 b] w fun e w' => e = .returned (.bool (mayB a && mayB b)) ∧ RelAt w' g 108 (addM R a b) ∧ w.grownBy w' (some g) := by
 by_cases hab : mayB a = true ∧ mayB b = true
 ·have h1 := (mayB_iff a).1 hab.1
  have h2 := (mayB_iff b).1 hab.2
  have e1 : (mayB a && mayB b) = true := by rw [hab.1, hab.2]; rfl
  have e2 : addM R a b = rowSet R a.toNat (fun j => R a.toNat j || decide (j = b.toNat)) := if_pos hab
  rw [e1, e2]
  obtain ⟨i, rfl⟩ := Int.eq_ofNat_of_zero_le h1.1
  obtain ⟨j, rfl⟩ := Int.eq_ofNat_of_zero_le h2.1
  simp only [Int.toNat_natCast]
  exact add_yes R g i j w h (by omega) (by omega)
 ·have e1 : (mayB a && mayB b) = false := by cases ha : mayB a <;> cases hb : mayB b <;> simp_all
  have e2 : addM R a b = R := if_neg hab
  rw [e1, e2]
  exact add_no R g a b w h hab
end

section
open Go.RowKit
theorem wp_load_rel {o : Oper} {a : Act} {w : World} {K : Act → World → Prop} {Q : Exit → Act → World → Prop} {g : Nat} {R : Mat} (h : RelAt w g 108 R) (x : Operand) (ho : o.op = .load 108 x)
  (hx : a.eval x = .pointer (some ⟨g, 0, none⟩)) (hn : K (a.put o.dst (.agg (rowsA R))) w) : o.wp Tryz.prog a w K Q :=
 wp_load_row 108 x ho g hx _ (rowsA R) _ _ h Tryz.underlying108 rfl (infoRel' _) hn
end

section
open Go.RowKit
theorem inB_iff {s t : Nat} (hs : IsSet s) : inB s t = true ↔ ∀ i, i < 64 → s.testBit i = true → t.testBit i = true := by
 unfold inB
 rw [beq_iff_eq]
 constructor
 ·intro h i _ hi
  have := congrArg (fun x => Nat.testBit x i) h
  simp [Nat.testBit_xor, Nat.testBit_and, hi] at this
  exact this
 ·intro h
  apply set_ext (isSet_xor hs (isSet_and hs)) (by unfold IsSet; omega)
  intro i hi
  rw [Nat.testBit_xor, Nat.testBit_and]
  cases hb : s.testBit i
  ·simp
  ·simp [h i hi hb]
end

section
open Go.RowKit
theorem nodup_map {α β : Type} (f : α → β) (hf : ∀ a b, f a = f b → a = b) : ∀ {l : List α}, l.Nodup → (l.map f).Nodup := by
 intro l h
 induction l with
 | nil => exact List.nodup_nil
 | cons a l ih =>
  rw [List.nodup_cons] at h
  rw [List.map_cons, List.nodup_cons]
  refine ⟨?_, ih h.2⟩
  intro hm
  obtain ⟨b, hb, e⟩ := List.mem_map.1 hm
  exact h.1 (hf b a e ▸ hb)
theorem addM_iff (R : Mat) (a b : Int) (i j : Nat) (hi : i < 64) (hj : j < 64) : addM R a b i j = true ↔ R i j = true ∨ (a = (i : Int) ∧ b = (j : Int)) := by
 unfold addM
 split
 ·rename_i h
  have h1 := (mayB_iff a).1 h.1
  have h2 := (mayB_iff b).1 h.2
  unfold rowSet
  by_cases e : i = a.toNat
  ·rw [if_pos e, ← e, Bool.or_eq_true, decide_eq_true_iff]
   apply or_congr Iff.rfl
   constructor
   ·intro h; omega
   ·intro h; omega
  ·rw [if_neg e]
   constructor
   ·exact .inl
   ·rintro (h | h)
    ·exact h
    ·omega
 ·rename_i h
  constructor
  ·exact .inl
  ·rintro (h' | ⟨rfl, rfl⟩)
   ·exact h'
   ·exact absurd ⟨(mayB_iff _).2 (by omega), (mayB_iff _).2 (by omega)⟩ h
end

section
open Go.RowKit
abbrev InI (x : Int) : Prop := (Lit.int .i64 x).wf = true
open Classical in
noncomputable def rdE {α : Type} (e : α → Value) (v : Value) : Option (DataW Value × List MemPlace) := if ∃ a, v = e a then some (.held v, []) else none
theorem rdE_mk {α : Type} (e : α → Value) (a : α) : rdE e (e a) = some (.held (e a), []) := by
 unfold rdE; rw [if_pos ⟨a, rfl⟩]
theorem rdE_inv {α : Type} {e : α → Value} {v : Value} {y : DataW Value × List MemPlace} (h : rdE e v = some y) : ∃ a, v = e a ∧ y = (.held (e a), []) := by
 unfold rdE at h
 split at h
 ·rename_i hv
  obtain ⟨a, rfl⟩ := hv
  exact ⟨a, rfl, (Option.some.inj h).symm⟩
 ·cases h
def Tells {α : Type} (e : α → Value) (D : DataW Value) (f : Int → Option α) : Prop :=
 ∀ x, InI x → Maps.has D (.int .i64 x) = (f x).isSome ∧ ∀ a, f x = some a → ∀ z, D.atKey (.int .i64 x) z = .held (e a)
def MapI {α : Type} (e : α → Value) (P : Program) (k : TypeId) (w : World) (b n : Nat) (f : Int → Option α) (c : Nat) : Prop :=
 ∃ D, w.ownsMap P k (rdE e) b n D ∧ Maps.size D = c ∧ Tells e D f
theorem MapI.made {α : Type} (e : α → Value) (P : Program) (k : TypeId) (w : World) : MapI e P k (w.alloc (.map #[] 0)) w.heap.size 0 (fun _ => none) 0 :=
 ⟨_, World.ownsMap_made w P k (rdE e), rfl, fun _ _ => ⟨rfl, fun _ h => by cases h⟩⟩
section
variable {α : Type} {e : α → Value} {P : Program} {k : TypeId} {w : World} {b n : Nat} {f : Int → Option α} {c : Nat}
theorem MapI.lt (h : MapI e P k w b n f c) : b < w.heap.size := by obtain ⟨D, h, _⟩ := h; exact h.lt
theorem MapI.mono (h : MapI e P k w b n f c) {n' : Nat} (hn : n ≤ n') : MapI e P k w b n' f c := by
 obtain ⟨D, h, r⟩ := h; exact ⟨D, h.mono hn, r⟩
theorem MapI.kept {w' : World} {row : Option Nat} (h : MapI e P k w b n f c) (hg : w.grownBy w' row) (hne : some b ≠ row) : MapI e P k w' b n f c := by
 obtain ⟨D, h, r⟩ := h; exact ⟨D, h.kept hg hne, r⟩
theorem MapI.below {w' : World} (h : MapI e P k w b n f c) (hb : Below w.heap.size w w') : MapI e P k w' b n f c :=
 h.kept (row := none) ⟨hb.os, hb.tape, hb.output, hb.size, fun j hj _ => hb.block j hj⟩ (by simp)
theorem MapI.alloc (h : MapI e P k w b n f c) (o : Obj) : MapI e P k (w.alloc o) b n f c := by
 obtain ⟨D, h, r⟩ := h; exact ⟨D, h.alloc o, r⟩
theorem keyOf_I (hk : P.underlying k = some (.int .i64)) {x : Int} (hx : InI x) : keyOf P k (.int .i64 x) = some (.int .i64 x) := Maps.keyOf_int_mk hk hx
theorem isKey_I (x : Int) : WideAt.IsKeyLit (.int .i64 x) := trivial
end
section
variable {α : Type} {e : α → Value} {P : Program} (w : World) {ops : Array Oper} {rest : List Oper} {o : Oper} {a : Act} {Q : Exit → Act → World → Prop}
theorem lookI_run {k el t : TypeId} {b n c : Nat} {f : Int → Option α} {w : World} (cm : Bool) (hk : P.underlying k = some (.int .i64)) (ht : P.underlying t = some (.map k el)) (a0 : α) (hz : (zeroValue el).run P w = .ok (e a0) w)
  (hown : MapI e P k w b n f c) {key : Int} (hkey : InI key) :
  (Instr.lookup t (.map (some b)) (.int .i64 key) cm).run P w = .ok (if cm then .tuple #[e ((f key).getD a0), .bool (f key).isSome] else e ((f key).getD a0)) w := by
 obtain ⟨D, hD, _, ht2⟩ := hown
 obtain ⟨hh, hat⟩ := ht2 key hkey
 have K := Maps.int_keyed hk
 cases cm
 ·obtain ⟨v, ps, hrun, hv⟩ := hD.lookup K ht hz (rdE_mk e a0) (keyOf_I hk hkey)
  obtain ⟨x, rfl, hy⟩ := rdE_inv hv
  have hy := congrArg Prod.fst hy
  simp only at hy
  rw [hrun]
  cases hf : f key with
  | none =>
   rw [hf] at hh
   rw [Maps.atKey_of_not_has hh] at hy
   simp [DataW.held.inj hy]
  | some u =>
   rw [hat u hf] at hy
   simp [DataW.held.inj hy]
 ·obtain ⟨v, ps, hrun, hv⟩ := hD.look_ok K ht hz (rdE_mk e a0) (keyOf_I hk hkey)
  obtain ⟨x, rfl, hy⟩ := rdE_inv hv
  have hy := congrArg Prod.fst hy
  simp only at hy
  rw [hrun, hh]
  cases hf : f key with
  | none =>
   rw [hf] at hh
   rw [Maps.atKey_of_not_has hh] at hy
   simp [DataW.held.inj hy]
  | some u =>
   rw [hat u hf] at hy
   simp [DataW.held.inj hy]
theorem wpList_lookI_ok (hg : o.guard = none) (m x : Operand) (t : TypeId) (hop : o.op = Op.lookup t m x true) (k el : TypeId) (hk : P.underlying k = some (.int .i64)) (ht : P.underlying t = some (.map k el)) (a0 : α) (hz : (zeroValue el).run P w = .ok (e a0) w)
  (b n c : Nat) (f : Int → Option α) (hm : a.eval m = .map (some b)) (hown : MapI e P k w b n f c) (key : Int) (hx : a.eval x = .int .i64 key) (hkey : InI key)
  (hK : wpList P ops Q rest (a.put o.dst (.tuple #[e ((f key).getD a0), .bool (f key).isSome])) w) : wpList P ops Q (o :: rest) a w := by
 refine wpList_plain hg fun K' hK' => ?_
 have hrun := lookI_run true hk ht a0 hz hown hkey
 unfold Oper.wp
 simp only [if_true] at hrun
 simp [execOp, hop, hm, hx, hrun, Result.andThen]
 exact hK' _ _ hK
theorem wpList_lookI (hg : o.guard = none) (m x : Operand) (t : TypeId) (hop : o.op = Op.lookup t m x false) (k el : TypeId) (hk : P.underlying k = some (.int .i64)) (ht : P.underlying t = some (.map k el)) (a0 : α) (hz : (zeroValue el).run P w = .ok (e a0) w)
  (b n c : Nat) (f : Int → Option α) (hm : a.eval m = .map (some b)) (hown : MapI e P k w b n f c) (key : Int) (hx : a.eval x = .int .i64 key) (hkey : InI key)
  (hK : wpList P ops Q rest (a.put o.dst (e ((f key).getD a0))) w) : wpList P ops Q (o :: rest) a w := by
 refine wpList_plain hg fun K' hK' => ?_
 have hrun := lookI_run false hk ht a0 hz hown hkey
 unfold Oper.wp
 simp only [Bool.false_eq_true, if_false] at hrun
 simp [execOp, hop, hm, hx, hrun, Result.andThen]
 exact hK' _ _ hK
def putF (f : Int → Option α) (key : Int) (val : α) : Int → Option α := fun y => if y = key then some val else f y
theorem putF_same (f : Int → Option α) (key : Int) (val : α) : putF f key val key = some val := by simp [putF]
theorem putF_other (f : Int → Option α) {key y : Int} (val : α) (h : y ≠ key) : putF f key val y = f y := by simp [putF, h]
theorem wpList_putI (hg : o.guard = none) (m x v : Operand) (t : TypeId) (hop : o.op = Op.mapUpdate t m x v) (k el : TypeId) (hk : P.underlying k = some (.int .i64)) (ht : P.underlying t = some (.map k el))
  (b n c : Nat) (f : Int → Option α) (hm : a.eval m = .map (some b)) (hown : MapI e P k w b n f c) (hn : n < maxLen) (key : Int) (hx : a.eval x = .int .i64 key) (hkey : InI key) (val : α) (hv : a.eval v = e val)
  (hK : ∀ w', MapI e P k w' b (n + 1) (putF f key val) (if (f key).isSome then c else c + 1) → w.grownBy w' (some b) → wpList P ops Q rest (a.put o.dst undef) w') : wpList P ops Q (o :: rest) a w := by
 obtain ⟨D, hD, hs, ht2⟩ := hown
 refine wpList_mapUpdate_own w hg m x v t hop k el (Maps.int_keyed hk) ht (rdE e) b n D hm hD hn _ _ _ hx hv (keyOf_I hk hkey) _ [] (rdE_mk e val) fun w' h1 h2 => hK w' ⟨_, h1, ?_, fun y hy => ?_⟩ h2
 ·rw [Maps.size_put (hD.tidy (Maps.int_keyed hk)), (ht2 key hkey).1, hs]
 ·by_cases he : y = key
  ·subst he
   rw [putF_same]
   exact ⟨Maps.has_put_same hD.isMap (isKey_I y) _, fun u hu z => by cases hu; exact Maps.atKey_put_same hD.isMap (isKey_I y) _ _⟩
  ·have hne : Lit.int .i64 y ≠ .int .i64 key := fun h => he (by cases h; rfl)
   rw [putF_other f val he]
   exact ⟨(Maps.has_put_other hne _).trans (ht2 y hy).1, fun u hu z => (Maps.atKey_put_other hne _ _).trans ((ht2 y hy).2 u hu z)⟩
theorem wpList_lenI (hg : o.guard = none) (m : Operand) (t : TypeId) (hop : o.op = Op.call { callee := Callee.builtin Builtin.len, args := #[m], argTypes := #[t] })
  (k el : TypeId) (ht : P.underlying t = some (.map k el)) (b n c : Nat) (f : Int → Option α) (hm : a.eval m = .map (some b)) (hown : MapI e P k w b n f c)
  (hK : wpList P ops Q rest (a.put o.dst (.int .i64 c)) w) : wpList P ops Q (o :: rest) a w := by
 obtain ⟨D, hD, hs, _⟩ := hown
 refine wpList_len_own w hg m t hop k el ht (rdE e) b n D hm hD ?_
 rw [hs]; exact hK
def RangeI (e : α → Value) (P : Program) (k : TypeId) (w : World) (b r n : Nat) (f : Int → Option α) (left : Int → Bool) (cnt : Nat) : Prop :=
 ∃ D L, w.ranges P k (rdE e) b r n D L cnt ∧ Tells e D f ∧ ∀ x, InI x → L (.int .i64 x) = left x
theorem RangeI.left_eq {k : TypeId} {b r n cnt : Nat} {f : Int → Option α} {left : Int → Bool} {w : World} (h : RangeI e P k w b r n f left cnt) : w.rangeLeft b r = cnt := by
 obtain ⟨D, L, h, _⟩ := h; exact h.left_eq
theorem RangeI.kept {k : TypeId} {b r n cnt : Nat} {f : Int → Option α} {left : Int → Bool} {w w' : World} {row : Option Nat} (h : RangeI e P k w b r n f left cnt) (hg : w.grownBy w' row) (hb : some b ≠ row) (hr : some r ≠ row) : RangeI e P k w' b r n f left cnt := by
 obtain ⟨D, L, h, q⟩ := h; exact ⟨D, L, h.kept hg hb hr, q⟩
theorem RangeI.alloc {k : TypeId} {b r n cnt : Nat} {f : Int → Option α} {left : Int → Bool} {w : World} (h : RangeI e P k w b r n f left cnt) (o : Obj) : RangeI e P k (w.alloc o) b r n f left cnt := by
 obtain ⟨D, L, h, q⟩ := h; exact ⟨D, L, h.alloc o, q⟩
theorem wpList_rangeI (hg : o.guard = none) (m : Operand) (t : TypeId) (hop : o.op = Op.range t m) (k el : TypeId) (hk : P.underlying k = some (.int .i64)) (ht : P.underlying t = some (.map k el)) (b n c : Nat) (f : Int → Option α)
  (hm : a.eval m = .map (some b)) (hown : MapI e P k w b n f c)
  (hK : ∀ w', RangeI e P k w' b w.heap.size n f (fun x => (f x).isSome) c → w.grownBy w' none → w'.heap.size = w.heap.size + 1 → wpList P ops Q rest (a.put o.dst (.pointer (some ⟨w.heap.size, 0, none⟩))) w') :
  wpList P ops Q (o :: rest) a w := by
 obtain ⟨D, hD, hs, ht2⟩ := hown
 refine wpList_range_own w hg m t hop k el (Maps.int_keyed hk) ht (rdE e) b n D hm hD fun w' h1 h2 h3 => hK w' ⟨D, _, hs ▸ h1, ht2, fun x hx => (ht2 x hx).1⟩ h2 h3
theorem wpList_nextI (hg : o.guard = none) (it : Operand) (hop : o.op = Op.next it false) (k : TypeId) (hk : P.underlying k = some (.int .i64)) (hinj : ∀ x y : α, e x = e y → x = y)
  (b r n : Nat) (f : Int → Option α) (left : Int → Bool) (cnt : Nat) (hit : a.eval it = .pointer (some ⟨r, 0, none⟩)) (h : RangeI e P k w b r n f left cnt)
  (hDone : cnt = 0 → (∀ x, InI x → left x = false) → wpList P ops Q rest (a.put o.dst (.tuple #[.bool false])) w)
  (hMore : ∀ (x : Int) (u : α) (w' : World) (cnt' : Nat), InI x → left x = true → f x = some u → RangeI e P k w' b r n f (fun y => left y && !decide (y = x)) cnt' → cnt' < cnt →
   w.grownBy w' (some r) → w'.heap.size = w.heap.size → (Instr.entry (.pointer (some ⟨r, 0, none⟩))).run P w' = .ok (.tuple #[.int .i64 x, e u]) w' → wpList P ops Q rest (a.put o.dst (.tuple #[.bool true, .int .i64 x, e u])) w') :
  wpList P ops Q (o :: rest) a w := by
 obtain ⟨D, L, hr, ht2, hL⟩ := h
 refine wpList_next_ranges w hg it hop k (Maps.int_keyed hk) (rdE e) (Value.int .i64) e (fun key kl hkey => by obtain ⟨x, rfl, _⟩ := Maps.keyOf_int_inv hk hkey; exact ⟨x, rfl⟩) (fun v y hv => by obtain ⟨c, rfl, _⟩ := rdE_inv hv; exact ⟨c, rfl⟩)
  b r n D L cnt hit hr (fun h0 hl => hDone h0 fun x hx => (hL x hx).symm.trans (hl _)) fun x u kl y w' cnt' hkey hlk hv hat hrg hlt hgr hsz hen => ?_
 obtain ⟨x', ex, rfl, hwx⟩ := Maps.keyOf_int_inv hk hkey
 cases ex
 obtain ⟨u', eu, rfl⟩ := rdE_inv hv
 obtain ⟨hh, hf⟩ := ht2 x hwx
 have hhas : Maps.has D (.int .i64 x) = true := Maps.has_true_of_atKey hat
 rw [hhas] at hh
 obtain ⟨u2, hu2⟩ := Option.isSome_iff_exists.1 hh.symm
 have e1 := (hf u2 hu2 .nil).symm.trans (hat .nil)
 simp only [DataW.held.injEq] at e1
 have e2 : u2 = u := hinj _ _ (e1.trans eu.symm)
 subst e2
 refine hMore x u2 w' cnt' hwx ((hL x hwx).symm.trans hlk) hu2 ⟨D, _, hrg, ht2, fun y hy => ?_⟩ hlt hgr hsz hen
 rw [hL y hy]
 by_cases hyx : y = x
 ·subst hyx
  rw [WideAt.sameKey_self (isKey_I y)]; simp
 ·rw [Maps.sameKey_ne (fun h => hyx (by cases h; rfl))]; simp [hyx]
end
end

section
open Go.RowKit
theorem inI_of {x : Int} (h : IntOk x) : InI x := WalkArith.wf_i64 (by have := h.1; have := h.2; omega)
def eI : Int → Value := Value.int .i64
def eO : OpV → Value := OpV.v
theorem eO_inj : ∀ x y : OpV, eO x = eO y → x = y := by
 rintro ⟨a, b, c⟩ ⟨a', b', c'⟩ h
 unfold eO OpV.v at h
 simp at h
 obtain ⟨rfl, rfl, rfl⟩ := h
 rfl
def lastO (l : List OpV) (x : Int) : Option OpV := (l.filter fun o => o.key == x).getLast?
def firstO (l : List OpV) (x : Int) : Option OpV := l.find? fun o => o.key == x
def lastW (l : List OpV) (x : Int) : Option OpV := (l.filter fun o => o.wr && o.key == x).getLast?
theorem take_snoc (l : List OpV) (k : Nat) (hk : k < l.length) : l.take (k + 1) = l.take k ++ [l[k]] := List.take_succ_eq_append_getElem hk
theorem lastO_snoc (l : List OpV) (o : OpV) : lastO (l ++ [o]) = putF (lastO l) o.key o := by
 funext y
 unfold lastO putF
 rw [List.filter_append]
 by_cases h : y = o.key
 ·subst h; simp
 ·have : (o.key == y) = false := by simp; exact fun e => h e.symm
  simp [this, h]
theorem lastW_snoc (l : List OpV) (o : OpV) : lastW (l ++ [o]) = if o.wr then putF (lastW l) o.key o else lastW l := by
 funext y
 cases hw : o.wr
 ·unfold lastW; rw [List.filter_append]; simp [hw]
 ·simp only [if_true]
  unfold lastW putF
  rw [List.filter_append]
  by_cases h : y = o.key
  ·subst h; simp [hw]
  ·have : (o.key == y) = false := by simp; exact fun e => h e.symm
   simp [hw, this, h]
theorem firstO_snoc (l : List OpV) (o : OpV) : firstO (l ++ [o]) = if (firstO l o.key).isSome then firstO l else putF (firstO l) o.key o := by
 funext y
 unfold firstO putF
 by_cases h : y = o.key
 ·subst h
  cases hf : l.find? (fun p => p.key == o.key) <;> simp [hf]
 ·have : (o.key == y) = false := by simp; exact fun e => h e.symm
  cases hf : l.find? (fun p => p.key == o.key) <;> simp [this, h]
theorem firstO_key {l : List OpV} {x : Int} {o : OpV} (h : firstO l x = some o) : o.key = x ∧ o ∈ l := by
 unfold firstO at h
 exact ⟨by simpa using List.find?_some h, List.mem_of_find?_eq_some h⟩
theorem lastW_key {l : List OpV} {x : Int} {o : OpV} (h : lastW l x = some o) : o.key = x ∧ o.wr = true ∧ o ∈ l := by
 unfold lastW at h
 have := List.mem_of_getLast? h
 simp at this
 exact ⟨this.2.2, this.2.1, this.1⟩
theorem lastO_key {l : List OpV} {x : Int} {o : OpV} (h : lastO l x = some o) : o.key = x ∧ o ∈ l := by
 unfold lastO at h
 have := List.mem_of_getLast? h
 simp at this
 exact ⟨this.2, this.1⟩
def stOk (l : List OpV) (k : Nat) : Bool :=
 match l[k]? with
 | none => true
 | some o => match lastO (l.take k) o.key with
  | none => true
  | some p => o.wr || o.val == p.val
def steadyL (l : List OpV) : Bool := (List.range l.length).all (stOk l)
theorem steadyL_all {l : List OpV} (h : ∀ j, j < l.length → stOk l j = true) : steadyL l = true := by
 unfold steadyL; rw [List.all_eq_true]; intro j hj; exact h j (List.mem_range.1 hj)
theorem steadyL_no {l : List OpV} {k : Nat} (hk : k < l.length) (h : stOk l k = false) : steadyL l = false := by
 unfold steadyL; rw [List.all_eq_false]; exact ⟨k, List.mem_range.2 hk, by simp [h]⟩
theorem stOk_at {l : List OpV} {k : Nat} (hk : k < l.length) : stOk l k = match lastO (l.take k) l[k].key with
  | none => true
  | some p => l[k].wr || l[k].val == p.val := by
 unfold stOk; rw [List.getElem?_eq_getElem hk]
def Rise (f : Int → Option OpV) (wr : Bool) (out : List OpV) : Prop := out.Pairwise (fun a b => a.key < b.key) ∧ ∀ o, o ∈ out ↔ (f o.key = some o ∧ o.wr = wr)
theorem rise_tail {a : OpV} {l m : List OpV} (h1 : ∀ x ∈ l, a.key < x.key) (h2 : ∀ x ∈ m, a.key < x.key) (hm : ∀ o, o ∈ a :: l ↔ o ∈ a :: m) : ∀ o, o ∈ l ↔ o ∈ m := by
 intro o
 have := hm o
 simp only [List.mem_cons] at this
 constructor
 ·intro ho
  rcases this.1 (Or.inr ho) with rfl | h
  ·have := h1 _ ho; omega
  ·exact h
 ·intro ho
  rcases this.2 (Or.inr ho) with rfl | h
  ·have := h2 _ ho; omega
  ·exact h
theorem rise_eq : ∀ {l m : List OpV}, l.Pairwise (fun a b => a.key < b.key) → m.Pairwise (fun a b => a.key < b.key) → (∀ o, o ∈ l ↔ o ∈ m) → l = m
 | [], [], _, _, _ => rfl
 | [], b :: m, _, _, h => by have := (h b).2 List.mem_cons_self; cases this
 | a :: l, [], _, _, h => by have := (h a).1 List.mem_cons_self; cases this
 | a :: l, b :: m, hl, hm, h => by
  obtain ⟨l1, l2⟩ := List.pairwise_cons.1 hl
  obtain ⟨m1, m2⟩ := List.pairwise_cons.1 hm
  have e : a = b := by
   rcases List.mem_cons.1 ((h a).1 List.mem_cons_self) with e | e
   ·exact e
   ·rcases List.mem_cons.1 ((h b).2 List.mem_cons_self) with e' | e'
    ·exact e'.symm
    ·have := m1 _ e; have := l1 _ e'; omega
  subst e
  rw [rise_eq l2 m2 (rise_tail l1 m1 h)]
theorem Rise.eq {f : Int → Option OpV} {wr : Bool} {l m : List OpV} (h1 : Rise f wr l) (h2 : Rise f wr m) : l = m :=
 rise_eq h1.1 h2.1 fun o => (h1.2 o).trans (h2.2 o).symm
end

section
open Go.RowKit
theorem keyI : Tryz.prog.underlying 3 = some (.int .i64) := Tryz.underlying3
theorem mapII : Tryz.prog.underlying 32 = some (.map 3 3) := Tryz.underlying32
theorem zeroI (w : World) : (zeroValue 3).run Tryz.prog w = .ok (eI 0) w := by kernel_rfl
theorem txnBlock (w : World) (x y z u : Value) (t : TypeId) : (w.alloc (.cells #[x, y, z, u] t)).cell? ⟨w.heap.size, 0, none⟩ = some x ∧ (w.alloc (.cells #[x, y, z, u] t)).cell? ⟨w.heap.size, 1, none⟩ = some y ∧ (w.alloc (.cells #[x, y, z, u] t)).cell? ⟨w.heap.size, 2, none⟩ = some z ∧ (w.alloc (.cells #[x, y, z, u] t)).cell? ⟨w.heap.size, 3, none⟩ = some u := by
 refine ⟨?_, ?_, ?_, ?_⟩ <;> simp
def valO (l : List OpV) : Int → Option Int := fun x => (lastO l x).map (·.val)
theorem valO_snoc (l : List OpV) (o : OpV) : valO (l ++ [o]) = putF (valO l) o.key o.val := by
 funext y
 unfold valO
 rw [lastO_snoc]
 unfold putF
 split <;> rfl
theorem valO_none {l : List OpV} {x : Int} (h : valO l x = none) : lastO l x = none := by
 unfold valO at h; simpa using h
theorem valO_some {l : List OpV} {x v : Int} (h : valO l x = some v) : ∃ p, lastO l x = some p ∧ p.val = v := by
 unfold valO at h; simpa using h
theorem all_snoc {p : Nat → Prop} {k : Nat} (h : ∀ j, j < k → p j) (hk : p k) : ∀ j, j < k + 1 → p j := fun j hj => by
 rcases Nat.lt_or_eq_of_le (Nat.le_of_lt_succ hj) with h1 | rfl
 ·exact h j h1
 ·exact hk
theorem steady_any (s b c : Int) (va : Value) (l : List OpV) (w : World) (ha : Ops w va l) (hok : ∀ o ∈ l, o.ok) (hlen : l.length ≤ 100000) :
  Calls Tryz.prog 105 #[.agg #[.int .i64 s, .int .i64 b, .int .i64 c, va]] w fun e w' => e = .returned (.bool (steadyL l)) ∧ Below w.heap.size w w' := by
 obtain ⟨ao, cap, rfl, hal⟩ := ha.form
 have HOK := hid hok
 clear hok
 have hb0 := (Below.refl w.heap.size w).alloc (Nat.le_refl _) (.cells #[.int .i64 s, .int .i64 b, .int .i64 c, .slice ao l.length cap] 83)
 have hm0 := MapI.made eI Tryz.prog 3 (w.alloc (.cells #[.int .i64 s, .int .i64 b, .int .i64 c, .slice ao l.length cap] 83))
 have hb1 := hb0.alloc hb0.size (.map #[] 0)
 have hmm := @run_makeMap Tryz.prog
 go_enter Tryz.func105, Tryz.ntmps105
 rw [show (w.alloc (.cells #[.int .i64 s, .int .i64 b, .int .i64 c, .slice ao l.length cap] 83)).heap.size = w.heap.size + 1 from by simp] at hm0
 go_wp2_with fail
 go_loopw [12] (fun i wr => ∃ k cnt : Nat, k ≤ l.length ∧ i = .int .i64 k ∧ (∀ j, j < k → stOk l j = true) ∧ MapI eI Tryz.prog 3 wr (w.heap.size + 1) k (valO (l.take k)) cnt ∧ Below w.heap.size w wr) (fun i _ => l.length - (intOf i).toNat)
 case atStart => exact ⟨0, 0, by omega, rfl, by omega, hm0, hb1⟩
 case round =>
  obtain ⟨k, cnt, hk, rfl, hst, hM, hb⟩ := hrel
  have HST := hid hst
  clear hst hm0 hb0 hb1
  by_cases hlt : k < l.length
  ·have hki : (k : Int) < (l.length : Int) := by omega
   obtain ⟨g, o, hao, c0, c1, c2⟩ := (ha.below hb).at hlt
   cases hao
   have HV : Hid (valO (l.take (k + 1)) = putF (valO (l.take k)) l[k].key l[k].val) := hid (by rw [take_snoc l k hlt, valO_snoc])
   have HS := hid (stOk_at hlt)
   have HNO := hid (fun h => steadyL_no hlt h)
   have hox := HOK.out l[k] (List.getElem_mem hlt)
   have hkey := inI_of hox.1
   generalize l[k] = x at *
   obtain ⟨wr', key, val⟩ := x
   simp only at c0 c1 c2 hkey
   have hM1 := hM.alloc (.cells #[.bool wr', .int .i64 key, .int .i64 val] 79)
   have hbb := hb.alloc hb.size (.cells #[.bool wr', .int .i64 key, .int .i64 val] 79)
   clear hox
   cases hv : valO (l.take k) key with
   | none =>
    have H : Hid (stOk l k = true) := hid (by rw [HS.out, valO_none hv])
    clear HNO
    go_wp2_with (first | (at_lookup; refine wpList_lookI_ok _ rfl _ _ 32 rfl 3 3 keyI mapII 0 (zeroI _) _ _ _ _ rfl hM1 _ rfl hkey ?_; rw [hv]) | (at_mapUpdate; refine wpList_putI _ rfl _ _ _ 32 rfl 3 3 keyI mapII _ _ _ _ rfl hM1 (by unfold maxLen; omega) _ rfl hkey val rfl ?_; intro w1 hM2 hg; go_frame) | go_in)
    have hb2 := hbb.grown hg hbb.size (fun j hj => by cases hj; omega)
    go_wp2_with fail
    go_roundw
    case rel => exact ⟨k + 1, _, by omega, by go_num, all_snoc HST.out H.out, by rw [HV.out]; exact hM2, hb2⟩
    case measure => simp [intOf]; omega
   | some v =>
    obtain ⟨p, hp, hpv⟩ := valO_some hv
    have HSP : Hid (stOk l k = (wr' || val == v)) := hid (by rw [HS.out, hp, ← hpv])
    clear HS hp hpv
    cases wr'
    ·by_cases hvv : val = v
     ·have H : Hid (stOk l k = true) := hid (by rw [HSP.out, hvv]; simp)
      have hne : (val != v) = false := by simp [hvv]
      clear HNO HSP hvv
      go_wp2_with (first | (at_lookup; refine wpList_lookI_ok _ rfl _ _ 32 rfl 3 3 keyI mapII 0 (zeroI _) _ _ _ _ rfl hM1 _ rfl hkey ?_; rw [hv]; simp only [Option.getD_some, Option.isSome_some, eI]) | (at_mapUpdate; refine wpList_putI _ rfl _ _ _ 32 rfl 3 3 keyI mapII _ _ _ _ rfl hM1 (by unfold maxLen; omega) _ rfl hkey val rfl ?_; intro w1 hM2 hg; go_frame) | go_in)
      have hb2 := hbb.grown hg hbb.size (fun j hj => by cases hj; omega)
      go_wp2_with fail
      go_roundw
      case rel => exact ⟨k + 1, _, by omega, by go_num, all_snoc HST.out H.out, by rw [HV.out]; exact hM2, hb2⟩
      case measure => simp [intOf]; omega
     ·have H : Hid (steadyL l = false) := hid (HNO.out (by rw [HSP.out]; simpa using hvv))
      have hne : (val != v) = true := by simpa using hvv
      clear HNO HSP hvv
      go_wp2_with (first | (at_lookup; refine wpList_lookI_ok _ rfl _ _ 32 rfl 3 3 keyI mapII 0 (zeroI _) _ _ _ _ rfl hM1 _ rfl hkey ?_; rw [hv]; simp only [Option.getD_some, Option.isSome_some, eI]) | go_in)
      go_ret
      exact ⟨ret_b H.out.symm, hbb⟩
    ·have H : Hid (stOk l k = true) := hid (by rw [HSP.out]; rfl)
     clear HNO HSP
     go_wp2_with (first | (at_lookup; refine wpList_lookI_ok _ rfl _ _ 32 rfl 3 3 keyI mapII 0 (zeroI _) _ _ _ _ rfl hM1 _ rfl hkey ?_; rw [hv]; simp only [Option.getD_some, Option.isSome_some, eI]) | (at_mapUpdate; refine wpList_putI _ rfl _ _ _ 32 rfl 3 3 keyI mapII _ _ _ _ rfl hM1 (by unfold maxLen; omega) _ rfl hkey val rfl ?_; intro w1 hM2 hg; go_frame) | go_in)
     have hb2 := hbb.grown hg hbb.size (fun j hj => by cases hj; omega)
     go_wp2_with fail
     go_roundw
     case rel => exact ⟨k + 1, _, by omega, by go_num, all_snoc HST.out H.out, by rw [HV.out]; exact hM2, hb2⟩
     case measure => simp [intOf]; omega
  ·have hkl : k = l.length := by omega
   have H : Hid (steadyL l = true) := hid (steadyL_all (by rw [← hkl]; exact HST.out))
   go_wp2_with fail
   go_ret
   exact ⟨ret_b H.out.symm, hb⟩
end

section
open Go.RowKit
theorem infoOp : (Tryz.prog.info? 79).map (fun i => (i.zero, i.size, i.bytes)) = some (some (.agg #[.bool false, .int .i64 0, .int .i64 0]), 3, 24) := by kernel_rfl
def Own (w : World) (base : Nat) (v : Value) (l : List OpV) : Prop := w.ownsRow base 79 3 v l.length (opV l)
theorem opV_app (l m : List OpV) : opV (l ++ m) = opV l ++ opV m := by simp [opV]
theorem opV_one (l : List OpV) : ∀ u ∈ opV l, u.oneCell' = true := by
 intro u hu
 unfold opV at hu
 obtain ⟨o, _, ho⟩ := List.mem_flatMap.1 hu
 simp at ho
 rcases ho with rfl | rfl | rfl <;> rfl
theorem opLit (w : World) (base : Nat) (o : OpV) (hb : base ≤ w.heap.size) : (w.alloc (.cells #[.bool o.wr, .int .i64 o.key, .int .i64 o.val] 79)).ownsRow base 79 3 (.slice (some ⟨w.heap.size, 0, none⟩) 1 1) 1 (opV [o]) :=
 World.ownsRow_lit (base := base) (size := 3) w #[.bool o.wr, .int .i64 o.key, .int .i64 o.val] 1 hb (by decide) rfl
theorem Own.ops {w : World} {base : Nat} {v : Value} {l : List OpV} (h : Own w base v l) : Ops w v l := Row.of_owns h
theorem Own.nil (w : World) (base : Nat) : Own w base (.slice none 0 0) [] := ⟨rfl, .inl ⟨rfl, rfl⟩⟩
theorem Own.below {w w' : World} {base : Nat} {v : Value} {l : List OpV} (h : Own w base v l) (hb : Below w.heap.size w w') : Own w' base v l := owns_below h hb
theorem Own.base {w : World} {base base' : Nat} {v : Value} {l : List OpV} (h : Own w base v l) (hb : base' ≤ base) : Own w base' v l := by
 obtain ⟨h1, h2⟩ := h
 refine ⟨h1, ?_⟩
 rcases h2 with h2 | ⟨g, cap, cur, e1, e2, r⟩
 ·exact .inl h2
 ·exact .inr ⟨g, cap, cur, e1, Nat.le_trans hb e2, r⟩
def rdK (l : List OpV) (k : Nat) : Option OpV := (firstO l k).filter fun o => !o.wr
def wrK (l : List OpV) (k : Nat) : Option OpV := lastW l k
def upTo (g : Nat → Option OpV) (n : Nat) : List OpV := (List.range n).filterMap g
theorem upTo_succ (g : Nat → Option OpV) (n : Nat) : upTo g (n + 1) = upTo g n ++ (g n).toList := by
 unfold upTo
 rw [List.range_succ, List.filterMap_append]
 cases h : g n <;> simp [h]
theorem upTo_len (g : Nat → Option OpV) (n : Nat) : (upTo g n).length ≤ n := by
 have := List.length_filterMap_le g (List.range n)
 unfold upTo; simpa using this
theorem upTo_mem {g : Nat → Option OpV} {n : Nat} {o : OpV} : o ∈ upTo g n ↔ ∃ k, k < n ∧ g k = some o := by
 unfold upTo; simp
theorem upTo_rise {g : Nat → Option OpV} (hg : ∀ k o, g k = some o → o.key = (k : Int)) : ∀ n, (upTo g n).Pairwise (fun a b => a.key < b.key)
 | 0 => by simp [upTo]
 | n + 1 => by
  rw [upTo_succ, List.pairwise_append]
  refine ⟨upTo_rise hg n, by cases g n <;> simp, fun a ha b hb => ?_⟩
  obtain ⟨k, hk, he⟩ := upTo_mem.1 ha
  have hb' : g n = some b := by simpa using hb
  rw [hg _ _ he, hg _ _ hb']; omega
theorem rdK_some {l : List OpV} {k : Nat} {o : OpV} : rdK l k = some o ↔ firstO l k = some o ∧ o.wr = false := by
 unfold rdK; rw [Option.filter_eq_some_iff]; simp
def refReads (l : List OpV) : List OpV := upTo (rdK l) 64
def refWrites (l : List OpV) : List OpV := upTo (wrK l) 64
def keysIn (l : List OpV) : Prop := ∀ o ∈ l, 0 ≤ o.key ∧ o.key < 64
theorem refReads_rise {l : List OpV} (h : keysIn l) : Rise (firstO l) false (refReads l) := by
 refine ⟨upTo_rise (fun k o hk => (firstO_key (rdK_some.1 hk).1).1) 64, fun o => ?_⟩
 unfold refReads
 rw [upTo_mem]
 constructor
 ·rintro ⟨k, _, hk⟩
  obtain ⟨h1, h2⟩ := rdK_some.1 hk
  rw [(firstO_key h1).1]; exact ⟨h1, h2⟩
 ·rintro ⟨h1, h2⟩
  obtain ⟨h3, h4⟩ := h o (firstO_key h1).2
  refine ⟨o.key.toNat, by omega, rdK_some.2 ⟨?_, h2⟩⟩
  rw [Int.toNat_of_nonneg h3]; exact h1
theorem refWrites_rise {l : List OpV} (h : keysIn l) : Rise (lastW l) true (refWrites l) := by
 refine ⟨upTo_rise (fun k o hk => (lastW_key hk).1) 64, fun o => ?_⟩
 unfold refWrites
 rw [upTo_mem]
 constructor
 ·rintro ⟨k, _, hk⟩
  have h1 : lastW l k = some o := hk
  rw [(lastW_key h1).1]; exact ⟨h1, (lastW_key h1).2.1⟩
 ·rintro ⟨h1, h2⟩
  obtain ⟨h3, h4⟩ := h o (lastW_key h1).2.2
  refine ⟨o.key.toNat, by omega, ?_⟩
  unfold wrK
  rw [Int.toNat_of_nonneg h3]; exact h1
theorem allM_keys {l : List OpV} (h : allM l = true) : keysIn l := fun o ho => by
 have := (mayO_iff o).1 (List.all_eq_true.1 h o ho)
 exact this.1
end

section
open Go.RowKit Go.Lib Go.Sort Go.Shelf
theorem nan_any (a : Int) (w : World) : Calls Tryz.prog 162 #[.int .i64 a] w fun e w' => e = .returned (.bool false) ∧ w = w' := by
 go_enter Tryz.func162, Tryz.ntmps162
 go_wp2_with fail
 go_ret
 exact ⟨rfl, rfl⟩
theorem compare_any (a b : Int) (w : World) : Calls Tryz.prog 127 #[.int .i64 a, .int .i64 b] w fun e w' => e = .returned (.int .i64 (compareInt a b)) ∧ w = w' := by
 have CA := hid (nan_any a w)
 have CB := hid (nan_any b w)
 have H1 : Hid (a < b → (-1 : Int) = compareInt a b) := hid (fun h => by unfold compareInt; simp [h])
 have H2 : Hid (¬ a < b → b < a → (1 : Int) = compareInt a b) := hid (fun h h' => by unfold compareInt; simp [h, h'])
 have H3 : Hid (¬ a < b → ¬ b < a → (0 : Int) = compareInt a b) := hid (fun h h' => by unfold compareInt; simp [h, h'])
 go_enter Tryz.func127, Tryz.ntmps127
 go_wp2_with fail
 refine (CA.out).mono ?_
 rintro e w1 ⟨rfl, rfl⟩
 go_wp2_with fail
 refine (CB.out).mono ?_
 rintro e w1 ⟨rfl, rfl⟩
 by_cases h1 : a < b
 ·have H := hid (H1.out h1)
  clear H1 H2 H3 CA CB
  go_wp2_with fail
  go_ret
  exact ⟨ret_i H.out, rfl⟩
 ·by_cases h2 : b < a
  ·have H := hid (H2.out (by omega) h2)
   clear H1 H2 H3 CA CB
   go_wp2_with fail
   go_ret
   exact ⟨ret_i H.out, rfl⟩
  ·have H := hid (H3.out (by omega) (by omega))
   clear H1 H2 H3 CA CB
   go_wp2_with fail
   go_ret
   exact ⟨ret_i H.out, rfl⟩
def encO (o : OpV) : List Value := [.bool o.wr, .int .i64 o.key, .int .i64 o.val]
def cmpO (x y : OpV) : Int := compareInt x.key y.key
instance : Inhabited OpV := ⟨opZ⟩
theorem cmp_lt (x y : OpV) : ltOf cmpO x y = decide (x.key < y.key) := by
 unfold ltOf cmpO compareInt
 by_cases h1 : x.key < y.key
 ·simp [h1]
 ·by_cases h2 : y.key < x.key <;> simp [h1, h2]
theorem cmp_swo : SWO (ltOf cmpO) where
 irrefl x := by rw [cmp_lt]; simp
 trans x y z h1 h2 := by rw [cmp_lt] at *; simp at *; omega
 ntrans x y z h1 h2 := by rw [cmp_lt] at *; simp at *; omega
theorem closure_any (x y : OpV) (w : World) : Calls Tryz.prog 185 #[.agg #[.bool x.wr, .int .i64 x.key, .int .i64 x.val], .agg #[.bool y.wr, .int .i64 y.key, .int .i64 y.val]] w fun e w' => e = .returned (.int .i64 (cmpO x y)) ∧ ∃ q os', w' = grow (w.drewN q) os' := by
 obtain ⟨xw, xk, xv⟩ := x
 obtain ⟨yw, yk, yv⟩ := y
 have CC := fun w => hid (compare_any xk yk w)
 show Calls _ _ _ _ fun e w' => e = .returned (.int .i64 (compareInt xk yk)) ∧ _
 generalize compareInt xk yk = r at *
 go_enter Tryz.func185, Tryz.ntmps185
 go_wp2_with fail
 refine ((CC _).out).mono ?_
 rintro e w' ⟨rfl, rfl⟩
 go_wp2_with fail
 go_ret
 exact ⟨rfl, 0, _, by rw [alloc_eq_grow, alloc_eq_grow, grow_grow]; rfl⟩
theorem cmp_lays (blk off size : Nat) (w : World) : CmpLays Tryz.prog 185 #[] encO 3 cmpO blk off size w := fun _ _ _ _ x y => closure_any x y _
theorem sort_any (blk off cap : Nat) (d : Array OpV) (w : World) (hH : HoldsK encO 3 w blk off d) (hblk : blk < w.heap.size) (hsz : d.size < 4611686018427387904) :
  Calls Tryz.prog 184 #[.slice (some ⟨blk, off, none⟩) d.size cap, .func (.func 185) #[] #[]] w fun e w' => e = .returned (.tuple #[]) ∧ ∃ d' n os, PermIn 0 d.size d d' ∧ SortedIn (ltOf cmpO) 0 d.size d' ∧ w' = sortWorldK encO 3 w blk off n d' os := by
 have eg : ∀ args w, (callFunc 185 args).run Tryz.prog w = .ok (.enter 185 args) w := enters_of Tryz.func185 (by kernel_rfl) rfl
 exact AnyQ.slices_SortFunc Tryz.sortOp 3 Tryz.isAgg79 Tryz.sizeOf79 encO (fun _ => rfl) (fun x v hv => by simp [encO] at hv; rcases hv with rfl | rfl | rfl <;> rfl) cmpO cmp_swo 185 #[] blk off cap d w eg (cmp_lays blk off d.size w) hH hblk hsz
theorem insNone (p : Option Addr) (cap : Nat) (fv : Value) (w : World) : Calls Tryz.prog 268 #[.slice p 0 cap, .int .i64 0, .int .i64 0, fv] w fun e w' => e = .returned (.tuple #[]) ∧ w = w' := by
 go_enter Tryz.func268, Tryz.ntmps268
 go_wp2_with fail
 refine wp_loop_rounds 1 ?_
 rw [rounds_succ]
 go_wp2_with fail
 go_end0
 exact ⟨rfl, rfl⟩
theorem pdqNone (p : Option Addr) (cap : Nat) (lim : Int) (fv : Value) (w : World) : Calls Tryz.prog 239 #[.slice p 0 cap, .int .i64 0, .int .i64 0, .int .i64 lim, fv] w fun e w' => e = .returned (.tuple #[]) ∧ w = w' := by
 have CI := hid (fun w => insNone p cap fv w)
 go_enter Tryz.func239, Tryz.ntmps239
 go_wp2_with fail
 refine wp_loop_rounds 1 ?_
 rw [rounds_succ]
 go_wp2_with fail
 refine (CI.out _).mono ?_
 rintro e w' ⟨rfl, rfl⟩
 go_wp2_with fail
 (try simp only [Exit.inBlock, Exit.then]); refine bodyPost_ret (results_none rfl _ _ _) rfl ?_
 exact ⟨rfl, rfl⟩
theorem sort_none (p : Option Addr) (cap : Nat) (fv : Value) (w : World) : Calls Tryz.prog 184 #[.slice p 0 cap, fv] w fun e w' => e = .returned (.tuple #[]) ∧ w = w' := by
 have CP := hid (fun lim w => pdqNone p cap lim fv w)
 have hl : ∀ W, Calls Tryz.prog 161 #[.int .u64 0] W fun e w' => e = .returned (.int .i64 (Lib.bitLen 0 : Nat)) ∧ w' = W := fun W =>
  Any.bits_Len (SlLaysF0.n15.bits (P := Tryz.prog) (ρ := Tryz.sortOp_ren) { Tryz.sortOp with }) 0 W (by omega) (by omega)
 have CL := hid hl
 clear hl
 go_enter Tryz.func184, Tryz.ntmps184
 go_wp2_with fail
 refine (CL.out _).mono ?_
 rintro e w' ⟨rfl, rfl⟩
 go_wp2_with fail
 refine (CP.out _ _).mono ?_
 rintro e w' ⟨rfl, rfl⟩
 go_wp2_with fail
 go_end0
 exact ⟨rfl, rfl⟩
end

end Go.Proofs.YtnhkjehfmbfmmaaGreatDoor
