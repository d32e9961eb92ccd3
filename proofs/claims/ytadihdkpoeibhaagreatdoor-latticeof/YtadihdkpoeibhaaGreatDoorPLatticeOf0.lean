/- Walks and plain facts that the proof of the statement LatticeOf uses, joined: Law SetM SetA SetN SetB Tab LevA LevB TabK TabW Slc OpZ ArgZ TxZ ArgT LevC LevE TblA TblB TblC LatA TokM TokA TokB TokC SetC SetD SetE TokD Bld LatB LatC LevD TblD TblE TblF TblG TblJ TblH TblK TblM TblN. Conditions: each theorem's own. -/
import Derived.Test.YtadihdkpoeibhaaGreatDoorRows
import Derived.Test.YtadihdkpoeibhaaGreatDoorProg
import Derived.Test.YtadihdkpoeibhaaGreatDoorShelf
import Derived.WalkKit
import Derived.ProofKit
import Derived.OpenShut
import Derived.Deep.DeepHandedRow
import Derived.Lib.LaidTab
import Derived.Laws.Bits64b
import Derived.WalkSpells
import Derived.WalkLawsBesides
import Derived.Lib.Hide
import Derived.Laws.Wrap64
import Derived.Laws.Bits128
import Derived.ChangeSame
import Derived.Stop.LaidErr
import Derived.WalkSmall
import Derived.Laws.AppendOwnNone
import Derived.Deep.Slices
import Derived.Deep.Strs
import Derived.Lib.SmallJoins
import Derived.Laws.Tables
import Derived.Laws.CopyOwn
import Derived.Deep.QuietTactic
import Derived.BigQuiet
import Derived.Lib.ItoaNum
import Derived.Lib.SplitLaws
import Derived.Laws.IdiomStrings
import Derived.Laws.Concat
import Derived.IntWalk
import Derived.Lib.ItoaLen
import Derived.Lib.Builder
import Derived.Lib.AppendStr
import Derived.Deep.CutRange
import Derived.Deep.AppendLies
import Derived.Outline
import Derived.Deep.MidRow
import Derived.Laws.BitsAllLaws
import Derived.ChangeKeysEq
import Derived.Deep.RegionHeld
namespace Go.Proofs.YtadihdkpoeibhaaGreatDoor
set_option maxHeartbeats 32000000
set_option maxRecDepth 100000
open Lib (hid)
section
open Go.ChangeShapes Go.WideShapes Go.ChangeAt Go.RowKit
theorem own : ownKnob Tryz.prog.godebug = none := by kernel_rfl
theorem laidOut : laidOutB Tryz.prog = true := by kernel_rfl
theorem trodAll_stays {H : Type} {enc : TypeId × Value → H} {W W' : World} (hb : Below W.heap.size W W') :
  ∀ (ts : List TypeId) (vs : List Value) (ds : List (DataW H)) (ps : List MemPlace), (∀ t ∈ ts, Tryz.prog.readableRec t = true ∧ t < Tryz.prog.types.size) →
   DataW.TrodAll enc Tryz.prog W 0 (fun _ => true) true ts vs ds ps → (∀ x ∈ ps, x.block < W.heap.size) →
   DataW.TrodAll enc Tryz.prog W' 0 (fun b => decide (b < W.heap.size)) true ts vs ds ps
 | [], vs, ds, ps, _, h, _ => by
  obtain ⟨rfl, rfl, rfl⟩ := trodAll_nil h
  exact trodAll_mk0
 | t :: ts, vs, ds, ps, hr, h, hlt => by
  obtain ⟨v, vs', d, ds', p, q, rfl, rfl, rfl, hd, hrest⟩ := trodAll_cons h
  have h1 := hr t List.mem_cons_self
  exact trodAll_cons_mk (Below.trod laidOut h1.1 h1.2 hd hb fun x hx => hlt x (List.mem_append_left _ hx))
   (trodAll_stays hb ts vs' ds' q (fun u hu => hr u (List.mem_cons_of_mem _ hu)) hrest fun x hx => hlt x (List.mem_append_right _ hx))
theorem law_post {H : Type} {enc : TypeId × Value → H} {s : ChangeSpec} {f : Func} {W W' : World} {args : Array Value} {ds gs : List (DataW H)} {before : List MemPlace}
  (hW : DataW.Whole enc Tryz.prog f.params.toList s.vars false W args.toList ds gs before) (hv : s.vars = [])
  (hr : ∀ t ∈ f.params.toList, Tryz.prog.readableRec t = true ∧ t < Tryz.prog.types.size) (hb : Below W.heap.size W W')
  (hres : f.resultTypes = #[4]) (hfn : (s.fn H (ds ++ [])).results = [.lit (.bool true)]) (hfa : (s.fn H (ds ++ [])).args = ds) (hfv : (s.fn H (ds ++ [])).vars = []) :
  s.post enc Tryz.prog f false true false false W args (.bool true) W' := by
 have hW' := hW
 obtain ⟨p, q, hA, hV, hpq, hfz, hnd⟩ := hW
 rw [hv] at hV
 obtain ⟨rfl, rfl⟩ := trodVars_none hV
 have hlt : ∀ x ∈ p, x.block < W.heap.size := fun x hx => by
  have := hW'.lt x (by rw [hpq]; exact List.mem_append_left _ hx)
  simpa using this
 refine ⟨ds, [], before, [], p, [], hW', ?_, ?_, ?_, hb.frame _, fun h => by cases h⟩
 ·rw [hfn, hres]
  exact trodAll_cons_mk (shut_bool Tryz.underlying4 _) trodAll_mk0
 ·rw [hfa]
  exact trodAll_stays hb _ _ _ _ hr hA hlt
 ·rw [hfv, hv]; exact rfl
end

section
def bt (n : Int) : Nat := if 0 ≤ n ∧ n < 64 then 2 ^ n.toNat else 0
def hasB (s : Nat) (n : Int) : Bool := decide (0 ≤ n ∧ n < 64) && s.testBit n.toNat
def IsSet (s : Nat) : Prop := s < 18446744073709551616
def withS (s : Nat) (n : Int) : Nat := s ||| bt n
def woS (s : Nat) (n : Int) : Nat := s ^^^ (s &&& bt n)
theorem isSet_iff (s : Nat) : IsSet s ↔ s < 2 ^ 64 := by unfold IsSet; omega
theorem isSet_of_bits {s : Nat} (h : ∀ i, 64 ≤ i → s.testBit i = false) : IsSet s := by
 rw [isSet_iff]; exact Nat.lt_pow_two_of_testBit s h
theorem IsSet.high {s : Nat} (h : IsSet s) {i : Nat} (hi : 64 ≤ i) : s.testBit i = false := by
 rw [isSet_iff] at h
 exact Nat.testBit_lt_two_pow (Nat.lt_of_lt_of_le h (Nat.pow_le_pow_right (by omega) hi))
theorem set_ext {s t : Nat} (hs : IsSet s) (ht : IsSet t) (h : ∀ i, i < 64 → s.testBit i = t.testBit i) : s = t := by
 apply Nat.eq_of_testBit_eq
 intro i
 by_cases hi : i < 64
 ·exact h i hi
 ·rw [hs.high (by omega), ht.high (by omega)]
theorem testBit_bt (n : Int) (i : Nat) : (bt n).testBit i = (decide (0 ≤ n ∧ n < 64) && decide (n.toNat = i)) := by
 unfold bt
 split
 ·rename_i h; rw [Nat.testBit_two_pow]; simp [h]
 ·rename_i h; simp [h]
theorem isSet_bt (n : Int) : IsSet (bt n) := by
 apply isSet_of_bits
 intro i hi
 rw [testBit_bt]
 by_cases h : 0 ≤ n ∧ n < 64
 ·simp [h]; omega
 ·simp [h]
theorem isSet_and {s t : Nat} (hs : IsSet s) : IsSet (s &&& t) := by
 apply isSet_of_bits
 intro i hi
 simp [hs.high hi]
theorem isSet_or {s t : Nat} (hs : IsSet s) (ht : IsSet t) : IsSet (s ||| t) := by
 apply isSet_of_bits
 intro i hi
 simp [hs.high hi, ht.high hi]
theorem isSet_xor {s t : Nat} (hs : IsSet s) (ht : IsSet t) : IsSet (s ^^^ t) := by
 apply isSet_of_bits
 intro i hi
 simp [hs.high hi, ht.high hi]
theorem isSet_withS {s : Nat} {n : Int} (hs : IsSet s) : IsSet (withS s n) := isSet_or hs (isSet_bt n)
theorem isSet_woS {s : Nat} {n : Int} (hs : IsSet s) : IsSet (woS s n) := isSet_xor hs (isSet_and hs)
theorem testBit_withS (s : Nat) (n : Int) (i : Nat) : (withS s n).testBit i = (s.testBit i || (decide (0 ≤ n ∧ n < 64) && decide (n.toNat = i))) := by
 simp only [withS, Nat.testBit_or, testBit_bt]
theorem testBit_woS (s : Nat) (n : Int) (i : Nat) : (woS s n).testBit i = (s.testBit i && !(decide (0 ≤ n ∧ n < 64) && decide (n.toNat = i))) := by
 simp only [woS, Nat.testBit_xor, Nat.testBit_and, testBit_bt]
 cases s.testBit i <;> simp
theorem and_bt_ne (s : Nat) (n : Int) : (s &&& bt n != 0) = hasB s n := by
 unfold hasB
 by_cases h : 0 ≤ n ∧ n < 64
 ·have e : s &&& bt n = if s.testBit n.toNat then 2 ^ n.toNat else 0 := by
   apply Nat.eq_of_testBit_eq
   intro i
   rw [Nat.testBit_and, testBit_bt]
   by_cases hb : s.testBit n.toNat = true
   ·simp only [h, hb, if_true, Nat.testBit_two_pow]
    by_cases e : n.toNat = i
    ·subst e; simp [hb]
    ·simp [e]
   ·simp only [h, hb]
    by_cases e : n.toNat = i
    ·subst e; simp [hb]
    ·simp [e]
  rw [e]
  cases hb : s.testBit n.toNat
  ·simp
  ·have : 0 < 2 ^ n.toNat := Nat.two_pow_pos _
   simp [h]
 ·have : bt n = 0 := by unfold bt; simp [h]
  rw [this]; simp [h]
theorem bits_has (s : Nat) (n : Int) (hs : IsSet s) : (Go.bits .and .u64 (s : Int) ((bt n : Nat) : Int) != 0) = hasB s n := by
 rw [Go.bits_and_u64_nat s (bt n) hs (isSet_bt n), ← and_bt_ne]
 rw [Bool.eq_iff_iff]; simp
theorem bits_with (s : Nat) (n : Int) (hs : IsSet s) : Go.bits .or .u64 (s : Int) ((bt n : Nat) : Int) = ((withS s n : Nat) : Int) :=
 Go.bits_or_u64_nat s (bt n) hs (isSet_bt n)
theorem bits_andNot_u64_nat (a b : Nat) (ha : a < 18446744073709551616) (hb : b < 18446744073709551616) :
  Go.bits .andNot .u64 (a : Int) (b : Int) = ((a ^^^ (a &&& b) : Nat) : Int) := by
 have hx : a ^^^ (a &&& b) < 2 ^ 64 := Nat.xor_lt_two_pow (by omega) (Nat.and_lt_two_pow _ (by omega))
 have h1 : (BitVec.ofInt 64 (a : Int)).toNat = a := by
  rw [BitVec.ofInt_natCast, BitVec.toNat_ofNat]; exact Nat.mod_eq_of_lt (by omega)
 have h2 : (BitVec.ofInt 64 (b : Int)).toNat = b := by
  rw [BitVec.ofInt_natCast, BitVec.toNat_ofNat]; exact Nat.mod_eq_of_lt (by omega)
 show IntKind.u64.wrap ((BitVec.ofInt 64 (a : Int) &&& ~~~ (BitVec.ofInt 64 (b : Int))).toNat : Int) = _
 have e : ∀ x y : BitVec 64, x &&& ~~~ y = x ^^^ (x &&& y) := by
  intro x y; ext i hi; simp; cases x[i] <;> cases y[i] <;> rfl
 rw [e, BitVec.toNat_xor, BitVec.toNat_and, h1, h2, IntKind.wrap_u64]
 omega
theorem bits_wo (s : Nat) (n : Int) (hs : IsSet s) : Go.bits .andNot .u64 (s : Int) ((bt n : Nat) : Int) = ((woS s n : Nat) : Int) :=
 bits_andNot_u64_nat s (bt n) hs (isSet_bt n)
theorem wrap_two_pow (n : Int) (h0 : 0 ≤ n) (h1 : n < 64) : IntKind.u64.wrap (2 ^ n.toNat) = ((bt n : Nat) : Int) := by
 have h := isSet_bt n
 unfold bt IsSet at *
 rw [if_pos ⟨h0, h1⟩] at *
 rw [IntKind.wrap_u64]
 have : ((2 : Int) ^ n.toNat) = ((2 ^ n.toNat : Nat) : Int) := by simp
 rw [this]; generalize 2 ^ n.toNat = k at *; omega
theorem bt_out (n : Int) (h : ¬ (0 ≤ n ∧ n < 64)) : (0 : Int) = ((bt n : Nat) : Int) := by unfold bt; simp [h]
end

section
open Go.RowKit
theorem ret_i {k : IntKind} {a b : Int} (h : a = b) : Ending.returned (.int k a) = .returned (.int k b) := by rw [h]
theorem ret_b {a b : Bool} (h : a = b) : Ending.returned (.bool a) = .returned (.bool b) := by rw [h]
theorem bit_in (n : Int) (w : World) (h0 : 0 ≤ n) (h1 : n < 64) :
  Calls Tryz.prog 161 #[.int .i64 n] w fun e w' => e = .returned (.int .u64 ((bt n : Nat) : Int)) ∧ w = w' := by
 go_enter Tryz.func161, Tryz.ntmps161
 go_wp2
 go_ret
 exact ⟨ret_i (wrap_two_pow n h0 h1), rfl⟩
theorem bit_out (n : Int) (w : World) (h : ¬ (0 ≤ n ∧ n < 64)) :
  Calls Tryz.prog 161 #[.int .i64 n] w fun e w' => e = .returned (.int .u64 ((bt n : Nat) : Int)) ∧ w = w' := by
 have e := bt_out n h
 have H := hid e; clear e
 by_cases h0 : n < 0
 all_goals
  go_enter Tryz.func161, Tryz.ntmps161
  go_wp2
  go_ret
  exact ⟨ret_i H.out, rfl⟩
theorem bit_any (n : Int) (w : World) :
  Calls Tryz.prog 161 #[.int .i64 n] w fun e w' => e = .returned (.int .u64 ((bt n : Nat) : Int)) ∧ w = w' := by
 by_cases h : 0 ≤ n ∧ n < 64
 ·exact bit_in n w h.1 h.2
 ·exact bit_out n w h
theorem has_any (s : Nat) (n : Int) (w : World) (hs : IsSet s) :
  Calls Tryz.prog 127 #[.int .u64 (s : Int), .int .i64 n] w fun e w' => e = .returned (.bool (hasB s n)) ∧ w = w' := by
 go_enter Tryz.func127, Tryz.ntmps127
 go_wp2_with (go_at_call 161; refine (bit_any _ _).mono ?_; rintro e w' ⟨rfl, rfl⟩)
 go_ret
 exact ⟨ret_b (bits_has s n hs), rfl⟩
theorem with_any (s : Nat) (n : Int) (w : World) (hs : IsSet s) :
  Calls Tryz.prog 118 #[.int .u64 (s : Int), .int .i64 n] w fun e w' => e = .returned (.int .u64 ((withS s n : Nat) : Int)) ∧ w = w' := by
 go_enter Tryz.func118, Tryz.ntmps118
 go_wp2_with (go_at_call 161; refine (bit_any _ _).mono ?_; rintro e w' ⟨rfl, rfl⟩)
 go_ret
 exact ⟨ret_i (bits_with s n hs), rfl⟩
theorem wo_any (s : Nat) (n : Int) (w : World) (hs : IsSet s) :
  Calls Tryz.prog 171 #[.int .u64 (s : Int), .int .i64 n] w fun e w' => e = .returned (.int .u64 ((woS s n : Nat) : Int)) ∧ w = w' := by
 go_enter Tryz.func171, Tryz.ntmps171
 go_wp2_with (go_at_call 161; refine (bit_any _ _).mono ?_; rintro e w' ⟨rfl, rfl⟩)
 go_ret
 exact ⟨ret_i (bits_wo s n hs), rfl⟩
end

section
def lstTo (s k : Nat) : List Nat := (List.range k).filter fun i => s.testBit i
def lst (s : Nat) : List Nat := lstTo s 64
def fst (s : Nat) : Nat := (lst s).headD 64
theorem lstTo_len (s k : Nat) : (lstTo s k).length ≤ k := by
 unfold lstTo
 have := List.length_filter_le (fun i => s.testBit i) (List.range k)
 simpa using this
theorem mem_lst {s i : Nat} : i ∈ lst s ↔ i < 64 ∧ s.testBit i = true := by simp [lst, lstTo]
theorem lst_nodup (s : Nat) : (lst s).Nodup := List.Pairwise.filter _ List.nodup_range
theorem lst_sorted (s : Nat) : (lst s).Pairwise (· < ·) := List.Pairwise.filter _ List.pairwise_lt_range
theorem lst_zero : lst 0 = [] := by decide
theorem lst_nil {s : Nat} (hs : IsSet s) (h : lst s = []) : s = 0 := by
 apply set_ext hs (by unfold IsSet; omega)
 intro i hi
 cases hb : s.testBit i
 ·simp
 ·have : i ∈ lst s := mem_lst.2 ⟨hi, hb⟩
  rw [h] at this; cases this
theorem lst_woS (s : Nat) (n : Nat) (hn : n < 64) : lst (woS s (n : Int)) = (lst s).filter (fun i => i != n) := by
 unfold lst lstTo
 rw [List.filter_filter]
 apply List.filter_congr
 intro i _
 rw [testBit_woS]
 have : (0 ≤ (n : Int) ∧ (n : Int) < 64) := by omega
 simp only [this, and_self, decide_true, Bool.true_and, Int.toNat_natCast, bne]
 rw [Bool.and_comm]
 congr 2
 rw [Bool.eq_iff_iff]; simp; exact ⟨fun h => h.symm, fun h => h.symm⟩
theorem lst_cons {s : Nat} (h : lst s ≠ []) : lst s = fst s :: lst (woS s (fst s : Int)) := by
 unfold fst
 match e : lst s with
 | [] => exact absurd e h
 | a :: t =>
  have ha : a < 64 := (mem_lst.1 (e ▸ List.mem_cons_self : a ∈ lst s)).1
  simp only [List.headD_cons]
  rw [lst_woS s a ha, e]
  have hn := e ▸ lst_nodup s
  rw [List.nodup_cons] at hn
  rw [List.filter_cons]
  simp
  symm
  rw [List.filter_eq_self]
  intro b hb
  simp
  rintro rfl
  exact hn.1 hb
theorem fst_mem {s : Nat} (h : lst s ≠ []) : fst s ∈ lst s := by
 rw [lst_cons h]; exact List.mem_cons_self
theorem fst_lt {s : Nat} (h : lst s ≠ []) : fst s < 64 := (mem_lst.1 (fst_mem h)).1
theorem fst_le (s : Nat) : fst s ≤ 64 := by
 by_cases h : lst s = []
 ·simp [fst, h]
 ·exact Nat.le_of_lt (fst_lt h)
theorem fst_least {s i : Nat} (h : i < fst s) : s.testBit i = false := by
 cases hb : s.testBit i
 ·rfl
 ·have hi : i < 64 := Nat.lt_of_lt_of_le h (fst_le s)
  have hm : i ∈ lst s := mem_lst.2 ⟨hi, hb⟩
  have hne : lst s ≠ [] := by intro e; rw [e] at hm; cases hm
  have hs := lst_sorted s
  rw [lst_cons hne] at hm hs
  rcases List.mem_cons.1 hm with e | e
  ·omega
  ·have := (List.pairwise_cons.1 hs).1 i e
   omega
theorem lst_ne {s : Nat} (hs : IsSet s) (h : 0 < s) : lst s ≠ [] := by
 intro e; have := lst_nil hs e; omega
/-! ### The lowest bit, as the library finds it -/
theorem low_div {s k : Nat} (hlow : ∀ i, i < k → s.testBit i = false) : s % 2 ^ k = 0 := by
 apply Nat.eq_of_testBit_eq
 intro i
 rw [Nat.testBit_mod_two_pow]
 by_cases h : i < k
 ·simp [hlow i h]
 ·simp [h]
theorem and_neg {s k : Nat} (hs : s < 2 ^ 64) (hk : s.testBit k = true) (hlow : ∀ i, i < k → s.testBit i = false) (hk64 : k < 64) : s &&& (2 ^ 64 - s) = 2 ^ k := by
 have h0 : 0 < s := by
  rcases Nat.eq_zero_or_pos s with h | h
  ·subst h; simp at hk
  ·exact h
 have hd := low_div hlow
 obtain ⟨c, hc⟩ : ∃ c, s = 2 ^ k * c := ⟨s / 2 ^ k, (Nat.mul_div_cancel' (Nat.dvd_of_mod_eq_zero hd)).symm⟩
 have hp : 0 < 2 ^ k := Nat.two_pow_pos k
 have codd : c % 2 = 1 := by
  have : s.testBit k = c.testBit 0 := by rw [hc, Nat.testBit_two_pow_mul]; simp
  rw [this] at hk
  simpa [Nat.testBit_zero] using hk
 obtain ⟨d, rfl⟩ : ∃ d, c = 2 * d + 1 := ⟨c / 2, by omega⟩
 have e1 : s - 1 = 2 ^ k * (2 * d) + (2 ^ k - 1) := by
  rw [hc, Nat.mul_add, Nat.mul_one]
  omega
 have e2 : 2 ^ 64 - s = 2 ^ 64 - ((s - 1) + 1) := by omega
 rw [e2]
 apply Nat.eq_of_testBit_eq
 intro i
 rw [Nat.testBit_and, Nat.testBit_two_pow_sub_succ (by omega), Nat.testBit_two_pow]
 rw [e1, Nat.testBit_two_pow_mul_add _ (by omega)]
 by_cases hik : i < k
 ·simp [hlow i hik]; omega
 ·rw [if_neg hik]
  have : s.testBit i = (2 * d + 1).testBit (i - k) := by rw [hc, Nat.testBit_two_pow_mul]; simp; omega
  rw [this]
  by_cases e : i = k
  ·subst e
   simp [Nat.testBit_zero, hk64]
  ·obtain ⟨j, hj⟩ : ∃ j, i - k = j + 1 := ⟨i - k - 1, by omega⟩
   rw [hj, Nat.testBit_succ, Nat.testBit_succ]
   have q1 : (2 * d + 1) / 2 = d := by omega
   have q2 : 2 * d / 2 = d := by omega
   rw [q1, q2]
   have : ¬ k = i := fun h => e h.symm
   simp [this]
   exact fun h _ => h
def deB : List Int := [0, 1, 56, 2, 57, 49, 28, 3, 61, 58, 42, 50, 38, 29, 17, 4, 62, 47, 59, 36, 45, 43, 51, 22, 53, 39, 33, 30, 24, 18, 12, 5, 63, 55, 48, 27, 60, 41, 37, 16, 46, 35, 44, 21, 52, 32, 23, 11, 54, 26, 40, 15, 34, 20, 31, 10, 25, 14, 19, 9, 13, 8, 7, 6]
def deIdx (k : Nat) : Nat := 2 ^ k * 285870213051353865 % 18446744073709551616 / 288230376151711744
theorem deB_at : ∀ k : Fin 64, deIdx k.val < 64 ∧ deB.getD (deIdx k.val) 0 = (k.val : Int) := by decide +kernel
theorem bits_neg (s : Nat) (hs : IsSet s) (h0 : 0 < s) : Go.bits .and .u64 (s : Int) (IntKind.u64.wrap (-(s : Int))) = ((2 ^ fst s : Nat) : Int) := by
 have hne := lst_ne hs h0
 have hm := fst_mem hne
 have hb := (mem_lst.1 hm).2
 have e : IntKind.u64.wrap (-(s : Int)) = ((18446744073709551616 - s : Nat) : Int) := by
  unfold IsSet at hs
  rw [IntKind.wrap_u64]; omega
 rw [e, Go.bits_and_u64_nat s _ hs (by omega)]
 have := and_neg (s := s) (k := fst s) (by unfold IsSet at hs; omega) hb (fun i hi => fst_least hi) (fst_lt hne)
 rw [show (18446744073709551616 : Nat) = 2 ^ 64 from by decide, this]
theorem de_idx (k : Nat) : IntKind.u64.wrap (((2 ^ k : Nat) : Int) * 285870213051353865) / 288230376151711744 = ((deIdx k : Nat) : Int) := by
 rw [IntKind.wrap_u64]; unfold deIdx
 generalize 2 ^ k = p
 omega
/-! ### How many bits, as the library counts them -/
def f1 (b : Nat) : Nat := (b / 2 &&& 0x55) + (b &&& 0x55)
def f2 (b : Nat) : Nat := (b / 4 &&& 0x33) + (b &&& 0x33)
def f3 (b : Nat) : Nat := (b / 16 + b) &&& 0x0f
def ofB : List Nat → Nat
 | [] => 0
 | b :: l => 256 * ofB l + b
def mk (c : Nat) : Nat → Nat
 | 0 => 0
 | k + 1 => 256 * mk c k + c
theorem and_split (a b m c : Nat) (hb : b < 256) (hc : c < 256) : (256 * a + b) &&& (256 * m + c) = 256 * (a &&& m) + (b &&& c) := by
 have hbc : b &&& c < 256 := Nat.and_lt_two_pow (n := 8) _ hc
 apply Nat.eq_of_testBit_eq
 intro i
 rw [Nat.testBit_and, show (256 : Nat) = 2 ^ 8 from rfl, Nat.testBit_two_pow_mul_add _ hb, Nat.testBit_two_pow_mul_add _ hc, Nat.testBit_two_pow_mul_add _ hbc]
 split <;> simp
theorem f1_low : ∀ b : Fin 256, ∀ r : Fin 2, (128 * r.val + b.val / 2) &&& 0x55 = (b.val / 2 &&& 0x55) := by decide +kernel
theorem f2_low : ∀ b : Fin 256, ∀ r : Fin 4, (64 * r.val + b.val / 4) &&& 0x33 = (b.val / 4 &&& 0x33) := by decide +kernel
theorem f3_low : ∀ b : Fin 256, ∀ r : Fin 5, b.val % 16 ≤ 4 → b.val / 16 ≤ 4 → (16 * r.val + b.val / 16 + b.val) &&& 0x0f = f3 b.val := by decide +kernel
theorem f1_lt : ∀ b : Fin 256, f1 b.val < 256 := by decide +kernel
theorem f2_lt : ∀ b : Fin 256, f2 b.val < 256 := by decide +kernel
theorem f21_ok : ∀ b : Fin 256, f2 (f1 b.val) % 16 ≤ 4 ∧ f2 (f1 b.val) / 16 ≤ 4 ∧ f2 (f1 b.val) < 256 := by decide +kernel
theorem pop_ok : ∀ b : Fin 256, f3 (f2 (f1 b.val)) = (lstTo b.val 8).length := by decide +kernel
theorem st1_ofB : ∀ l : List Nat, (∀ b ∈ l, b < 256) → (ofB l / 2 &&& mk 0x55 l.length) + (ofB l &&& mk 0x55 l.length) = ofB (l.map f1)
 | [], _ => rfl
 | b :: l, h => by
  have hb := h b List.mem_cons_self
  have ih := st1_ofB l fun x hx => h x (List.mem_cons_of_mem _ hx)
  simp only [ofB, mk, List.length_cons, List.map_cons]
  have e : (256 * ofB l + b) / 2 = 256 * (ofB l / 2) + (128 * (ofB l % 2) + b / 2) := by omega
  have hlow := f1_low ⟨b, hb⟩ ⟨ofB l % 2, by omega⟩
  simp only at hlow
  rw [e, and_split _ _ _ _ (by omega) (by omega), and_split _ _ _ _ hb (by omega), ← ih, hlow, f1]
  omega
theorem st2_ofB : ∀ l : List Nat, (∀ b ∈ l, b < 256) → (ofB l / 4 &&& mk 0x33 l.length) + (ofB l &&& mk 0x33 l.length) = ofB (l.map f2)
 | [], _ => rfl
 | b :: l, h => by
  have hb := h b List.mem_cons_self
  have ih := st2_ofB l fun x hx => h x (List.mem_cons_of_mem _ hx)
  simp only [ofB, mk, List.length_cons, List.map_cons]
  have e : (256 * ofB l + b) / 4 = 256 * (ofB l / 4) + (64 * (ofB l % 4) + b / 4) := by omega
  have hlow := f2_low ⟨b, hb⟩ ⟨ofB l % 4, by omega⟩
  simp only at hlow
  rw [e, and_split _ _ _ _ (by omega) (by omega), and_split _ _ _ _ hb (by omega), ← ih, hlow, f2]
  omega
theorem st3_ofB : ∀ l : List Nat, (∀ b ∈ l, b % 16 ≤ 4 ∧ b / 16 ≤ 4 ∧ b < 256) → (ofB l / 16 + ofB l) &&& mk 0x0f l.length = ofB (l.map f3)
 | [], _ => rfl
 | b :: l, h => by
  obtain ⟨h1, h2, hb⟩ := h b List.mem_cons_self
  have ih := st3_ofB l fun x hx => h x (List.mem_cons_of_mem _ hx)
  have hr : ofB l % 16 ≤ 4 := by
   cases l with
   | nil => simp [ofB]
   | cons c l =>
    have := (h c (List.mem_cons_of_mem _ List.mem_cons_self)).1
    simp only [ofB]; omega
  simp only [ofB, mk, List.length_cons, List.map_cons]
  have e : (256 * ofB l + b) / 16 + (256 * ofB l + b) = 256 * (ofB l / 16 + ofB l) + (16 * (ofB l % 16) + b / 16 + b) := by omega
  have hlow := f3_low ⟨b, hb⟩ ⟨ofB l % 16, by omega⟩ h1 h2
  simp only at hlow
  rw [e, and_split _ _ _ _ (by omega) (by omega), ← ih, hlow]
theorem lstTo_add (s j k : Nat) : (lstTo s (j + k)).length = (lstTo s j).length + (lstTo (s / 2 ^ j) k).length := by
 unfold lstTo
 rw [List.range_add, List.filter_append, List.length_append, List.filter_map, List.length_map]
 congr 2
 apply List.filter_congr
 intro i _
 simp [Function.comp, Nat.testBit_div_two_pow, Nat.add_comm]
theorem lstTo_low (a b k : Nat) (hb : b < 2 ^ k) : lstTo (2 ^ k * a + b) k = lstTo b k := by
 unfold lstTo
 apply List.filter_congr
 intro i hi
 have : i < k := by simpa using hi
 rw [Nat.testBit_two_pow_mul_add _ hb, if_pos this]
def sumB : List Nat → Nat
 | [] => 0
 | b :: l => b + sumB l
theorem cnt_ofB : ∀ l : List Nat, (∀ b ∈ l, b < 256) → (lstTo (ofB l) (8 * l.length)).length = sumB (l.map fun b => f3 (f2 (f1 b)))
 | [], _ => rfl
 | b :: l, h => by
  have hb := h b List.mem_cons_self
  have ih := cnt_ofB l fun x hx => h x (List.mem_cons_of_mem _ hx)
  have hp := pop_ok ⟨b, hb⟩
  simp only at hp
  simp only [ofB, List.length_cons, List.map_cons, sumB]
  rw [show 8 * (l.length + 1) = 8 + 8 * l.length by omega, lstTo_add, show (256 : Nat) = 2 ^ 8 from rfl, lstTo_low _ _ _ hb, hp]
  have : (2 ^ 8 * ofB l + b) / 2 ^ 8 = ofB l := by omega
  rw [this, ih]
theorem bytes_of (s : Nat) (hs : IsSet s) : ∃ l : List Nat, l.length = 8 ∧ (∀ b ∈ l, b < 256) ∧ s = ofB l := by
 unfold IsSet at hs
 refine ⟨[s % 256, s / 256 % 256, s / 65536 % 256, s / 16777216 % 256, s / 4294967296 % 256, s / 1099511627776 % 256, s / 281474976710656 % 256, s / 72057594037927936], rfl, ?_, ?_⟩
 ·intro b hb
  simp only [List.mem_cons, List.not_mem_nil, or_false] at hb
  rcases hb with h | h | h | h | h | h | h | h <;> omega
 ·simp only [ofB]; omega
theorem ofB_lt : ∀ l : List Nat, (∀ b ∈ l, b < 256) → ofB l < 256 ^ l.length
 | [], _ => by simp [ofB]
 | b :: l, h => by
  have hb := h b List.mem_cons_self
  have ih := ofB_lt l fun x hx => h x (List.mem_cons_of_mem _ hx)
  simp only [ofB, List.length_cons, Nat.pow_succ]
  omega
/-! ### The library's steps, as the walk writes them -/
def sA (x : Int) : Int := IntKind.u64.wrap (Go.bits .and .u64 (x / 2) 6148914691236517205 + Go.bits .and .u64 x 6148914691236517205)
def sB (x : Int) : Int := IntKind.u64.wrap (Go.bits .and .u64 (x / 4) 3689348814741910323 + Go.bits .and .u64 x 3689348814741910323)
def sC (x : Int) : Int := Go.bits .and .u64 (IntKind.u64.wrap (x / 16 + x)) 1085102592571150095
def sD (x : Int) : Int := IntKind.u64.wrap (x + x / 256)
def sE (x : Int) : Int := IntKind.u64.wrap (x + x / 65536)
def sF (x : Int) : Int := IntKind.u64.wrap (x + x / 4294967296)
theorem sA_nat (x : Nat) (l : List Nat) (hl : l.length = 8) (hb : ∀ b ∈ l, b < 256) (hx : x = ofB l) : sA (x : Int) = ((ofB (l.map f1) : Nat) : Int) := by
 have h := st1_ofB l hb
 have hlt := ofB_lt l hb
 have hlt2 := ofB_lt (l.map f1) (by
  intro b hbm
  obtain ⟨c, hc, rfl⟩ := List.mem_map.1 hbm
  exact f1_lt ⟨c, hb c hc⟩)
 simp only [List.length_map] at hlt2
 rw [hl] at h hlt hlt2
 rw [← hx] at h hlt
 have e : mk 0x55 8 = 6148914691236517205 := by decide
 rw [e] at h
 unfold sA
 rw [show ((x : Int) / 2) = ((x / 2 : Nat) : Int) from by omega, show (6148914691236517205 : Int) = ((6148914691236517205 : Nat) : Int) from rfl]
 rw [Go.bits_and_u64_nat (x / 2) _ (by omega) (by omega), Go.bits_and_u64_nat x _ (by omega) (by omega), IntKind.wrap_u64, ← h]
 omega
theorem sB_nat (x : Nat) (l : List Nat) (hl : l.length = 8) (hb : ∀ b ∈ l, b < 256) (hx : x = ofB l) : sB (x : Int) = ((ofB (l.map f2) : Nat) : Int) := by
 have h := st2_ofB l hb
 have hlt := ofB_lt l hb
 have hlt2 := ofB_lt (l.map f2) (by
  intro b hbm
  obtain ⟨c, hc, rfl⟩ := List.mem_map.1 hbm
  exact f2_lt ⟨c, hb c hc⟩)
 simp only [List.length_map] at hlt2
 rw [hl] at h hlt hlt2
 rw [← hx] at h hlt
 have e : mk 0x33 8 = 3689348814741910323 := by decide
 rw [e] at h
 unfold sB
 rw [show ((x : Int) / 4) = ((x / 4 : Nat) : Int) from by omega, show (3689348814741910323 : Int) = ((3689348814741910323 : Nat) : Int) from rfl]
 rw [Go.bits_and_u64_nat (x / 4) _ (by omega) (by omega), Go.bits_and_u64_nat x _ (by omega) (by omega), IntKind.wrap_u64, ← h]
 omega
theorem sC_nat (x : Nat) (l : List Nat) (hl : l.length = 8) (hb : ∀ b ∈ l, b % 16 ≤ 4 ∧ b / 16 ≤ 4 ∧ b < 256) (hx : x = ofB l) : sC (x : Int) = ((ofB (l.map f3) : Nat) : Int) := by
 have h := st3_ofB l hb
 have hlt : ofB l < 4991460930710486580 := by
  match l, hl with
  | [a, b, c, d, e, f, g, i], _ =>
   have := hb i (by simp)
   have := hb a (by simp)
   have := hb b (by simp)
   have := hb c (by simp)
   have := hb d (by simp)
   have := hb e (by simp)
   have := hb f (by simp)
   have := hb g (by simp)
   simp only [ofB]
   omega
 rw [hl] at h
 rw [← hx] at h hlt
 have e : mk 0x0f 8 = 1085102592571150095 := by decide
 rw [e] at h
 unfold sC
 have e2 : IntKind.u64.wrap ((x : Int) / 16 + (x : Int)) = ((x / 16 + x : Nat) : Int) := by rw [IntKind.wrap_u64]; omega
 rw [e2, show (1085102592571150095 : Int) = ((1085102592571150095 : Nat) : Int) from rfl]
 rw [Go.bits_and_u64_nat _ _ (by omega) (by omega), h]
theorem f3_le : ∀ b : Fin 256, f3 (f2 (f1 b.val)) ≤ 8 := by decide +kernel
theorem sD_step (x q p y : Nat) (hx : x = 256 * q + p) (hp : p < 256) (hb : x + q < 18446744073709551616) (hy : y = x + q) : sD (x : Int) = (y : Int) := by
 unfold sD; rw [IntKind.wrap_u64, show (x : Int) / 256 = (q : Int) from by omega, Int.emod_eq_of_lt (by omega) (by omega)]; omega
theorem sE_step (x q p y : Nat) (hx : x = 65536 * q + p) (hp : p < 65536) (hb : x + q < 18446744073709551616) (hy : y = x + q) : sE (x : Int) = (y : Int) := by
 unfold sE; rw [IntKind.wrap_u64, show (x : Int) / 65536 = (q : Int) from by omega, Int.emod_eq_of_lt (by omega) (by omega)]; omega
theorem sF_step (x q p y : Nat) (hx : x = 4294967296 * q + p) (hp : p < 4294967296) (hb : x + q < 18446744073709551616) (hy : y = x + q) : sF (x : Int) = (y : Int) := by
 unfold sF; rw [IntKind.wrap_u64, show (x : Int) / 4294967296 = (q : Int) from by omega, Int.emod_eq_of_lt (by omega) (by omega)]; omega
theorem tail_nat (p0 p1 p2 p3 p4 p5 p6 p7 : Nat) (h0 : p0 ≤ 8) (h1 : p1 ≤ 8) (h2 : p2 ≤ 8) (h3 : p3 ≤ 8) (h4 : p4 ≤ 8) (h5 : p5 ≤ 8) (h6 : p6 ≤ 8) (h7 : p7 ≤ 8) (x n : Nat)
  (hx : x = p0 + 256 * p1 + 65536 * p2 + 16777216 * p3 + 4294967296 * p4 + 1099511627776 * p5 + 281474976710656 * p6 + 72057594037927936 * p7) (hn : n = p0 + p1 + p2 + p3 + p4 + p5 + p6 + p7) :
  ∃ z : Nat, sF (sE (sD (x : Int))) = ((256 * z + n : Nat) : Int) ∧ 256 * z + n < 9223372036854775808 := by
 obtain ⟨y, hy⟩ : ∃ y : Nat, y = (p0 + p1) + 256 * (p1 + p2) + 65536 * (p2 + p3) + 16777216 * (p3 + p4) + 4294967296 * (p4 + p5) + 1099511627776 * (p5 + p6) + 281474976710656 * (p6 + p7) + 72057594037927936 * p7 := ⟨_, rfl⟩
 obtain ⟨v, hv⟩ : ∃ v : Nat, v = (p0 + p1 + p2 + p3) + 256 * (p1 + p2 + p3 + p4) + 65536 * (p2 + p3 + p4 + p5) + 16777216 * (p3 + p4 + p5 + p6) + 4294967296 * (p4 + p5 + p6 + p7) + 1099511627776 * (p5 + p6 + p7) + 281474976710656 * (p6 + p7) + 72057594037927936 * p7 := ⟨_, rfl⟩
 have e1 : sD (x : Int) = (y : Int) := by
  apply sD_step _ (p1 + 256 * p2 + 65536 * p3 + 16777216 * p4 + 4294967296 * p5 + 1099511627776 * p6 + 281474976710656 * p7) p0 <;> (clear hv hn; subst hx hy; omega)
 have e2 : sE (y : Int) = (v : Int) := by
  apply sE_step _ ((p2 + p3) + 256 * (p3 + p4) + 65536 * (p4 + p5) + 16777216 * (p5 + p6) + 4294967296 * (p6 + p7) + 1099511627776 * p7) ((p0 + p1) + 256 * (p1 + p2)) <;> (clear hx hn e1; subst hv hy; omega)
 rw [e1, e2]
 clear e1 e2 hx hy
 refine ⟨(p1 + p2 + p3 + p4) + 256 * (p2 + p3 + p4 + p5) + 65536 * (p3 + p4 + p5 + p6) + 16777216 * (p4 + p5 + p6 + p7) + 4294967296 * (p5 + p6 + p7) + 1099511627776 * (p6 + p7) + 281474976710656 * p7 + (p5 + p6 + p7) + 256 * (p6 + p7) + 65536 * p7, ?_, by clear hv; subst hn; omega⟩
 apply sF_step _ ((p4 + p5 + p6 + p7) + 256 * (p5 + p6 + p7) + 65536 * (p6 + p7) + 16777216 * p7) ((p0 + p1 + p2 + p3) + 256 * (p1 + p2 + p3 + p4) + 65536 * (p2 + p3 + p4 + p5) + 16777216 * (p3 + p4 + p5 + p6)) <;> (subst hv hn; omega)
theorem and127 (z : Nat) (n : Nat) (hn : n ≤ 64) (h : 256 * z + n < 9223372036854775808) : Go.bits .and .i64 ((256 * z + n : Nat) : Int) 127 = (n : Int) := by
 show IntKind.i64.wrap ((BitVec.ofInt 64 ((256 * z + n : Nat) : Int) &&& BitVec.ofInt 64 127).toNat : Int) = _
 have h1 : (BitVec.ofInt 64 ((256 * z + n : Nat) : Int)).toNat = 256 * z + n := by
  rw [BitVec.ofInt_natCast, BitVec.toNat_ofNat]; exact Nat.mod_eq_of_lt (by omega)
 have h2 : (BitVec.ofInt 64 (127 : Int)).toNat = 127 := by decide
 have e : (256 * z + n) &&& 127 = n := by
  have := Nat.and_two_pow_sub_one_eq_mod (256 * z + n) 7
  rw [show (2 : Nat) ^ 7 - 1 = 127 from rfl] at this
  rw [this]; omega
 rw [BitVec.toNat_and, h1, h2, e]
 simp [IntKind.wrap, IntKind.bits, IntKind.signed]; omega
theorem ones_eq (s : Nat) (hs : IsSet s) : ∃ m : Nat, sF (sE (sD (sC (sB (sA (s : Int)))))) = (m : Int) ∧ m < 9223372036854775808 ∧ Go.bits .and .i64 (m : Int) 127 = (((lst s).length : Nat) : Int) := by
 obtain ⟨l, hl, hb, rfl⟩ := bytes_of s hs
 have hb1 : ∀ b ∈ l.map f1, b < 256 := by
  intro b hbm
  obtain ⟨c, hc, rfl⟩ := List.mem_map.1 hbm
  exact f1_lt ⟨c, hb c hc⟩
 have hb2 : ∀ b ∈ (l.map f1).map f2, b % 16 ≤ 4 ∧ b / 16 ≤ 4 ∧ b < 256 := by
  intro b hbm
  obtain ⟨c1, hc1, rfl⟩ := List.mem_map.1 hbm
  obtain ⟨c, hc, rfl⟩ := List.mem_map.1 hc1
  exact f21_ok ⟨c, hb c hc⟩
 rw [sA_nat _ l hl hb rfl, sB_nat _ _ (by simpa using hl) hb1 rfl, sC_nat _ _ (by simpa using hl) hb2 rfl]
 have hc := cnt_ofB l hb
 rw [hl] at hc
 have hlen : (lst (ofB l)).length = sumB (l.map fun b => f3 (f2 (f1 b))) := hc
 have hle : (lst (ofB l)).length ≤ 64 := lstTo_len _ _
 rw [hlen] at hle ⊢
 rw [List.map_map, List.map_map]
 match l, hl, hb with
 | [a, b, c, d, e, f, g, i], _, hb =>
  have q := fun x hx => f3_le ⟨x, hb x hx⟩
  simp only at q
  obtain ⟨z, hz1, hz2⟩ := tail_nat _ _ _ _ _ _ _ _ (q a (by simp)) (q b (by simp)) (q c (by simp)) (q d (by simp)) (q e (by simp)) (q f (by simp)) (q g (by simp)) (q i (by simp)) (ofB ([a, b, c, d, e, f, g, i].map (f3 ∘ f2 ∘ f1))) (sumB ([a, b, c, d, e, f, g, i].map fun b => f3 (f2 (f1 b)))) (by simp only [List.map_cons, List.map_nil, ofB, Function.comp]; omega) (by simp only [List.map_cons, List.map_nil, sumB]; omega)
  exact ⟨_, hz1, hz2, and127 _ _ hle hz2⟩
end

section
open Go.RowKit
theorem wrap64_nat (m : Nat) (h : m < 9223372036854775808) : wrap64 (m : Int) = (m : Int) := by unfold wrap64; omega
theorem ones_any (s : Nat) (w : World) (hs : IsSet s) :
  Calls Tryz.prog 217 #[.int .u64 (s : Int)] w fun e w' => e = .returned (.int .i64 (((lst s).length : Nat) : Int)) ∧ w = w' := by
 have H : Hid (IsSet s) := hid hs
 clear hs
 go_enter Tryz.func217, Tryz.ntmps217
 go_wp2
 go_ret
 refine ⟨?_, rfl⟩
 obtain ⟨m, h1, h2, h3⟩ := ones_eq s H.out
 refine ret_i ?_
 have e : Go.bits .and .i64 (wrap64 (sF (sE (sD (sC (sB (sA (s : Int)))))))) 127 = (((lst s).length : Nat) : Int) := by rw [h1, wrap64_nat m h2, h3]
 exact e
theorem scount_any (s : Nat) (w : World) (hs : IsSet s) :
  Calls Tryz.prog 180 #[.int .u64 (s : Int)] w fun e w' => e = .returned (.int .i64 (((lst s).length : Nat) : Int)) ∧ w = w' := by
 go_enter Tryz.func180, Tryz.ntmps180
 go_wp2_with (go_at_call 217; refine (ones_any _ _ hs).mono ?_; rintro e w' ⟨rfl, rfl⟩)
 go_ret
 exact ⟨rfl, rfl⟩
def Tab (w : World) : Prop := ∀ i, i < 64 → w.cell? ⟨1, i, none⟩ = some (.int .u8 (deB.getD i 0))
theorem Tab.pos {w : World} (h : Tab w) : 1 < w.heap.size := by
 have := h 0 (by omega)
 by_cases h0 : 1 < w.heap.size
 ·exact h0
 ·simp [World.cell?, Array.getElem?_eq_none (Nat.le_of_not_lt h0)] at this
theorem Tab.below {w w' : World} {B : Nat} (h : Tab w) (hb : Below B w w') (hB : 1 < B) : Tab w' :=
 fun i hi => (hb.cell (p := ⟨1, i, none⟩) hB).trans (h i hi)
theorem ntz_zero (w : World) :
  Calls Tryz.prog 218 #[.int .u64 0] w fun e w' => e = .returned (.int .i64 64) ∧ w = w' := by
 go_enter Tryz.func218, Tryz.ntmps218
 go_wp2
 go_ret
 exact ⟨rfl, rfl⟩
theorem ntz_walk (s p x k : Nat) (w : World) (h0 : 0 < s) (hn : Go.bits .and .u64 (s : Int) (IntKind.u64.wrap (-(s : Int))) = ((p : Nat) : Int))
  (hi : IntKind.u64.wrap ((p : Int) * 285870213051353865) / 288230376151711744 = ((x : Nat) : Int)) (hx : x < 64) (hc : w.cell? ⟨1, x, none⟩ = some (.int .u8 (k : Int))) (hk : k < 64) :
  Calls Tryz.prog 218 #[.int .u64 (s : Int)] w fun e w' => e = .returned (.int .i64 (k : Int)) ∧ w = w' := by
 go_enter Tryz.func218, Tryz.ntmps218
 go_wp2
 go_ret
 exact ⟨rfl, rfl⟩
theorem ntz_pos (s : Nat) (w : World) (hs : IsSet s) (h0 : 0 < s) (ht : Tab w) :
  Calls Tryz.prog 218 #[.int .u64 (s : Int)] w fun e w' => e = .returned (.int .i64 ((fst s : Nat) : Int)) ∧ w = w' := by
 have hlt := fst_lt (lst_ne hs h0)
 obtain ⟨hd1, hd2⟩ := deB_at ⟨fst s, hlt⟩
 simp only at hd1 hd2
 have hc := ht _ hd1
 rw [hd2] at hc
 exact ntz_walk s (2 ^ fst s) (deIdx (fst s)) (fst s) w h0 (bits_neg s hs h0) (de_idx (fst s)) hd1 hc hlt
theorem first_any (s : Nat) (w : World) (hs : IsSet s) (ht : Tab w) :
  Calls Tryz.prog 181 #[.int .u64 (s : Int)] w fun e w' => e = .returned (.int .i64 ((fst s : Nat) : Int)) ∧ w = w' := by
 have hz : Calls Tryz.prog 218 #[.int .u64 (s : Int)] w fun e w' => e = .returned (.int .i64 ((fst s : Nat) : Int)) ∧ w = w' := by
  rcases Nat.eq_zero_or_pos s with h | h
  ·subst h; exact ntz_zero w
  ·exact ntz_pos s w hs h ht
 have H := hid hz
 clear hz
 go_enter Tryz.func181, Tryz.ntmps181
 go_wp2_with (go_at_call 218; refine (H.out).mono ?_; rintro e w' ⟨rfl, rfl⟩)
 go_ret
 exact ⟨rfl, rfl⟩
def inB (s t : Nat) : Bool := (s ^^^ (s &&& t)) == 0
theorem bits_in (s t : Nat) (hs : IsSet s) (ht : IsSet t) : (Go.bits .andNot .u64 (s : Int) (t : Int) == 0) = inB s t := by
 rw [bits_andNot_u64_nat s t hs ht, inB, Bool.eq_iff_iff]; simp
theorem within_any (s t : Nat) (w : World) (hs : IsSet s) (ht : IsSet t) :
  Calls Tryz.prog 168 #[.int .u64 (s : Int), .int .u64 (t : Int)] w fun e w' => e = .returned (.bool (inB s t)) ∧ w = w' := by
 have H := hid (bits_in s t hs ht)
 clear hs ht
 go_enter Tryz.func168, Tryz.ntmps168
 go_wp2
 go_ret
 exact ⟨ret_b H.out, rfl⟩
def belowS (n : Int) : Nat := if n ≤ 0 then 0 else if 64 ≤ n then 18446744073709551615 else 2 ^ n.toNat - 1
end

section
open Go.ChangeShapes Go.WideShapes Go.ChangeAt Go.RowKit
theorem gTab : Tryz.prog.globalNamed "math/bits.deBruijn64tab" = some 1 := by kernel_rfl
theorem gTabType : (Tryz.prog.globals[1]?).map (·.type) = some 241 := by kernel_rfl
theorem cellsTab : Tryz.prog.cellsOf 241 = 64 := by kernel_rfl
theorem cellsU8 : Tryz.prog.cellsOf 5 = 1 := by kernel_rfl
end

section
open Go.RowKit
def askL : List Nat := [0, 1, 3, 9, 5, 11, 13, 17, 34, 36, 44, 48]
def nameL : List (List UInt8) := [[114, 101, 97, 100, 45, 97, 116, 111, 109, 105, 99], [115, 101, 115, 115, 105, 111, 110, 45, 97, 116, 111, 109, 105, 99], [99, 97, 117, 115, 97, 108], [117, 112, 100, 97, 116, 101], [112, 114, 101, 102, 105, 120], [112, 97, 114, 97, 108, 108, 101, 108], [115, 110, 97, 112, 115, 104, 111, 116], [115, 101, 114, 105, 97, 108], [116, 105, 109, 101, 45, 99, 97, 117, 115, 97, 108], [116, 105, 109, 101, 45, 112, 114, 101, 102, 105, 120], [116, 105, 109, 101, 45, 115, 110, 97, 112, 115, 104, 111, 116], [115, 116, 114, 105, 99, 116]]
def isLv (l : Int) : Bool := decide (0 ≤ l ∧ l < 12)
def askAt (k : Nat) : Nat := askL.getD k 0
def nameAt (k : Nat) : ByteArray := ⟨(nameL.getD k []).toArray⟩
def askN (l : Int) : Nat := if isLv l then askAt l.toNat else 0
def nameN (l : Int) : ByteArray := if isLv l then nameAt l.toNat else ⟨#[]⟩
def clN (k : Nat) : Nat :=
 let a := if k.testBit 4 then k ||| 12 else k
 let b := if a.testBit 2 then a ||| 2 else a
 if b.testBit 5 then b ||| 1 else b
def clI (x : Int) : Nat := clN (x % 64).toNat
theorem askAt_lt : ∀ k : Fin 12, askAt k.val < 64 := by decide
theorem askN_lt (l : Int) : askN l < 64 := by
 unfold askN isLv
 split
 ·rename_i h
  simp only [decide_eq_true_eq] at h
  exact askAt_lt ⟨l.toNat, by omega⟩
 ·omega
theorem clN_lt : ∀ k : Fin 64, clN k.val < 64 := by decide +kernel
theorem clI_lt (x : Int) : clI x < 64 := clN_lt ⟨(x % 64).toNat, by omega⟩
theorem and63 (n : Int) : bits .and .i64 n 63 = n % 64 := by
 have h1 : (BitVec.ofInt 64 63) = 63#64 := by decide
 show IntKind.i64.wrap ((BitVec.ofInt 64 n &&& BitVec.ofInt 64 63).toNat : Int) = _
 have h2 : (BitVec.ofInt 64 n &&& BitVec.ofInt 64 63).toNat = (BitVec.ofInt 64 n).toNat % 64 := by
  rw [BitVec.toNat_and, h1]
  exact Nat.and_two_pow_sub_one_eq_mod _ 6
 rw [h2, BitVec.toNat_ofInt, IntKind.wrap_i64]
 omega
theorem i64_and_nat (a b : Nat) (ha : a < 9223372036854775808) (hb : b < 9223372036854775808) : bits .and .i64 (a : Int) (b : Int) = ((a &&& b : Nat) : Int) := by
 have hx : a &&& b ≤ a := Nat.and_le_left
 have h1 : (BitVec.ofInt 64 (a : Int)).toNat = a := by
  rw [BitVec.ofInt_natCast, BitVec.toNat_ofNat]; exact Nat.mod_eq_of_lt (by omega)
 have h2 : (BitVec.ofInt 64 (b : Int)).toNat = b := by
  rw [BitVec.ofInt_natCast, BitVec.toNat_ofNat]; exact Nat.mod_eq_of_lt (by omega)
 show IntKind.i64.wrap ((BitVec.ofInt 64 (a : Int) &&& BitVec.ofInt 64 (b : Int)).toNat : Int) = _
 rw [BitVec.toNat_and, h1, h2, IntKind.wrap_i64]
 omega
theorem i64_or_nat (a b : Nat) (ha : a < 2 ^ 63) (hb : b < 2 ^ 63) : bits .or .i64 (a : Int) (b : Int) = ((a ||| b : Nat) : Int) := by
 have hx : a ||| b < 2 ^ 63 := Nat.or_lt_two_pow ha hb
 have h1 : (BitVec.ofInt 64 (a : Int)).toNat = a := by
  rw [BitVec.ofInt_natCast, BitVec.toNat_ofNat]; exact Nat.mod_eq_of_lt (by omega)
 have h2 : (BitVec.ofInt 64 (b : Int)).toNat = b := by
  rw [BitVec.ofInt_natCast, BitVec.toNat_ofNat]; exact Nat.mod_eq_of_lt (by omega)
 show IntKind.i64.wrap ((BitVec.ofInt 64 (a : Int) ||| BitVec.ofInt 64 (b : Int)).toNat : Int) = _
 rw [BitVec.toNat_or, h1, h2, IntKind.wrap_i64]
 omega
theorem i64_andNot_nat (a b : Nat) (ha : a < 2 ^ 63) (hb : b < 2 ^ 63) : bits .andNot .i64 (a : Int) (b : Int) = ((a ^^^ (a &&& b) : Nat) : Int) := by
 have hx : a ^^^ (a &&& b) < 2 ^ 63 := Nat.xor_lt_two_pow ha (Nat.lt_of_le_of_lt Nat.and_le_left ha)
 have h1 : (BitVec.ofInt 64 (a : Int)).toNat = a := by
  rw [BitVec.ofInt_natCast, BitVec.toNat_ofNat]; exact Nat.mod_eq_of_lt (by omega)
 have h2 : (BitVec.ofInt 64 (b : Int)).toNat = b := by
  rw [BitVec.ofInt_natCast, BitVec.toNat_ofNat]; exact Nat.mod_eq_of_lt (by omega)
 show IntKind.i64.wrap ((BitVec.ofInt 64 (a : Int) &&& ~~~ (BitVec.ofInt 64 (b : Int))).toNat : Int) = _
 have e : ∀ x y : BitVec 64, x &&& ~~~ y = x ^^^ (x &&& y) := by
  intro x y; ext i hi; simp; cases x[i] <;> cases y[i] <;> rfl
 rw [e, BitVec.toNat_xor, BitVec.toNat_and, h1, h2, IntKind.wrap_i64]
 omega
end

section
open Go.RowKit
def Kinds (w : World) : Prop := ∀ k, k < 12 → w.cell? ⟨0, k * 2, none⟩ = some (.string (nameAt k)) ∧ w.cell? ⟨0, k * 2 + 1, none⟩ = some (.int .i64 (askAt k))
theorem lret_b {a b : Bool} (h : a = b) : Ending.returned (.bool a) = .returned (.bool b) := by rw [h]
theorem lret_i {k : IntKind} {a b : Int} (h : a = b) : Ending.returned (.int k a) = .returned (.int k b) := by rw [h]
theorem lis_any (l : Int) (w : World) : Calls Tryz.prog 76 #[.int .i64 l] w fun e w' => e = .returned (.bool (isLv l)) ∧ w = w' := by
 have H : Hid ((decide (0 ≤ l) && decide (l < 12)) = isLv l) := hid (by unfold isLv; simp)
 by_cases h0 : 0 ≤ l
 ·have H1 : Hid (decide (l < 12) = isLv l) := hid (by rw [← H.out]; simp [h0])
  go_enter Tryz.func76, Tryz.ntmps76
  go_wp2
  go_ret
  exact ⟨lret_b H1.out, rfl⟩
 ·have H1 : Hid (false = isLv l) := hid (by rw [← H.out]; simp [h0])
  go_enter Tryz.func76, Tryz.ntmps76
  go_wp2
  go_ret
  exact ⟨lret_b H1.out, rfl⟩
theorem lis_yes {l : Int} (h : isLv l = true) (w : World) : Calls Tryz.prog 76 #[.int .i64 l] w fun e w' => e = .returned (.bool true) ∧ w = w' := by
 have := lis_any l w; rwa [h] at this
theorem lis_no {l : Int} (h : isLv l = false) (w : World) : Calls Tryz.prog 76 #[.int .i64 l] w fun e w' => e = .returned (.bool false) ∧ w = w' := by
 have := lis_any l w; rwa [h] at this
theorem lasks_any (l : Int) (w : World) (hK : Kinds w) : Calls Tryz.prog 38 #[.int .i64 l] w fun e w' => e = .returned (.int .i64 (askN l)) ∧ w = w' := by
 cases h : isLv l
 ·have C := hid (fun wx => lis_no h wx)
  have H : Hid (((askN l : Nat) : Int) = 0) := hid (by unfold askN; rw [h]; rfl)
  clear h hK
  rw [H.out]
  go_enter Tryz.func38, Tryz.ntmps38
  go_wp2_with (go_at_call 76; refine (C.out _).mono ?_; rintro e w' ⟨rfl, rfl⟩)
  go_ret
  exact ⟨rfl, rfl⟩
 ·have C := hid (fun wx => lis_yes h wx)
  have hl : 0 ≤ l ∧ l < 12 := by simpa [isLv] using h
  obtain ⟨k, rfl⟩ := Int.eq_ofNat_of_zero_le hl.1
  have hk : k < 12 := by omega
  have hki : (k : Int) < 12 := by omega
  have H : Hid (askN (k : Int) = askAt k) := hid (by unfold askN; rw [h]; rfl)
  have hc := (hK k hk).2
  clear h hK hl
  rw [H.out]
  generalize askAt k = a at *
  go_enter Tryz.func38, Tryz.ntmps38
  go_wp2_with (go_at_call 76; refine (C.out _).mono ?_; rintro e w' ⟨rfl, rfl⟩)
  go_ret
  exact ⟨rfl, rfl⟩
theorem lname_any (l : Int) (w : World) (hK : Kinds w) : Calls Tryz.prog 88 #[.int .i64 l] w fun e w' => e = .returned (.string (nameN l)) ∧ w = w' := by
 cases h : isLv l
 ·have C := hid (fun wx => lis_no h wx)
  have H : Hid (nameN l = ⟨#[]⟩) := hid (by unfold nameN; rw [h]; rfl)
  clear h hK
  rw [H.out]
  go_enter Tryz.func88, Tryz.ntmps88
  go_wp2_with (go_at_call 76; refine (C.out _).mono ?_; rintro e w' ⟨rfl, rfl⟩)
  go_ret
  exact ⟨rfl, rfl⟩
 ·have C := hid (fun wx => lis_yes h wx)
  have hl : 0 ≤ l ∧ l < 12 := by simpa [isLv] using h
  obtain ⟨k, rfl⟩ := Int.eq_ofNat_of_zero_le hl.1
  have hk : k < 12 := by omega
  have hki : (k : Int) < 12 := by omega
  have H : Hid (nameN (k : Int) = nameAt k) := hid (by unfold nameN; rw [h]; rfl)
  have hc := (hK k hk).1
  clear h hK hl
  rw [H.out]
  generalize nameAt k = a at *
  go_enter Tryz.func88, Tryz.ntmps88
  go_wp2_with (go_at_call 76; refine (C.out _).mono ?_; rintro e w' ⟨rfl, rfl⟩)
  go_ret
  exact ⟨rfl, rfl⟩
theorem cl_bits : ∀ k : Fin 64, (k.val &&& 16 = if k.val.testBit 4 then 16 else 0) ∧ (k.val &&& 4 = if k.val.testBit 2 then 4 else 0) ∧ (k.val &&& 32 = if k.val.testBit 5 then 32 else 0) ∧ (k.val ||| 12 < 64) ∧ (k.val ||| 2 < 64) ∧ (k.val ||| 1 < 64) := by decide +kernel
theorem cl_i64 (k : Nat) (hk : k < 64) : bits .and .i64 (k : Int) 16 = (if k.testBit 4 then 16 else 0) ∧ bits .and .i64 (k : Int) 4 = (if k.testBit 2 then 4 else 0) ∧ bits .and .i64 (k : Int) 32 = (if k.testBit 5 then 32 else 0) ∧
  bits .or .i64 (k : Int) 12 = ((k ||| 12 : Nat) : Int) ∧ bits .or .i64 (k : Int) 2 = ((k ||| 2 : Nat) : Int) ∧ bits .or .i64 (k : Int) 1 = ((k ||| 1 : Nat) : Int) ∧ (k ||| 12 < 64) ∧ (k ||| 2 < 64) := by
 obtain ⟨h1, h2, h3, h4, h5, h6⟩ := cl_bits ⟨k, hk⟩
 simp only at h1 h2 h3 h4 h5 h6
 refine ⟨?_, ?_, ?_, ?_, ?_, ?_, h4, h5⟩
 ·rw [show (16 : Int) = ((16 : Nat) : Int) from rfl, i64_and_nat k 16 (by omega) (by omega), h1]; split <;> rfl
 ·rw [show (4 : Int) = ((4 : Nat) : Int) from rfl, i64_and_nat k 4 (by omega) (by omega), h2]; split <;> rfl
 ·rw [show (32 : Int) = ((32 : Nat) : Int) from rfl, i64_and_nat k 32 (by omega) (by omega), h3]; split <;> rfl
 ·exact i64_or_nat k 12 (by omega) (by omega)
 ·exact i64_or_nat k 2 (by omega) (by omega)
 ·exact i64_or_nat k 1 (by omega) (by omega)
theorem cl_parts (x : Int) : ∃ k a b : Nat, bits .and .i64 x 63 = (k : Int) ∧
  ((bits .and .i64 (k : Int) 16 = 16 ∧ bits .or .i64 (k : Int) 12 = (a : Int)) ∨ (bits .and .i64 (k : Int) 16 = 0 ∧ a = k)) ∧
  ((bits .and .i64 (a : Int) 4 = 4 ∧ bits .or .i64 (a : Int) 2 = (b : Int)) ∨ (bits .and .i64 (a : Int) 4 = 0 ∧ b = a)) ∧
  ((bits .and .i64 (b : Int) 32 = 32 ∧ bits .or .i64 (b : Int) 1 = ((clI x : Nat) : Int)) ∨ (bits .and .i64 (b : Int) 32 = 0 ∧ clI x = b)) := by
 obtain ⟨k, hkx, hk⟩ : ∃ k : Nat, x % 64 = (k : Int) ∧ k < 64 := ⟨(x % 64).toNat, by omega, by omega⟩
 obtain ⟨k1, _, _, k4, _, _, ha, _⟩ := cl_i64 k hk
 obtain ⟨a, hA⟩ : ∃ a : Nat, a = if k.testBit 4 then k ||| 12 else k := ⟨_, rfl⟩
 have hal : a < 64 := by rw [hA]; split <;> omega
 obtain ⟨_, a2, _, _, a5, _, _, hb⟩ := cl_i64 a hal
 obtain ⟨b, hB⟩ : ∃ b : Nat, b = if a.testBit 2 then a ||| 2 else a := ⟨_, rfl⟩
 have hbl : b < 64 := by rw [hB]; split <;> omega
 obtain ⟨_, _, b3, _, _, b6, _, _⟩ := cl_i64 b hbl
 have hC : clI x = if b.testBit 5 then b ||| 1 else b := by unfold clI; rw [hkx, Int.toNat_natCast]; unfold clN; simp only; rw [← hA, ← hB]
 refine ⟨k, a, b, by rw [and63, hkx], ?_, ?_, ?_⟩
 ·cases t : k.testBit 4
  ·exact .inr ⟨by rw [k1, t]; rfl, by rw [hA, t]; rfl⟩
  ·exact .inl ⟨by rw [k1, t]; rfl, by rw [k4, hA, t]; rfl⟩
 ·cases t : a.testBit 2
  ·exact .inr ⟨by rw [a2, t]; rfl, by rw [hB, t]; rfl⟩
  ·exact .inl ⟨by rw [a2, t]; rfl, by rw [a5, hB, t]; rfl⟩
 ·cases t : b.testBit 5
  ·exact .inr ⟨by rw [b3, t]; rfl, by rw [hC, t]; rfl⟩
  ·exact .inl ⟨by rw [b3, t]; rfl, by rw [b6, hC, t]; rfl⟩
theorem lclosed_any (x : Int) (w : World) : Calls Tryz.prog 37 #[.int .i64 x] w fun e w' => e = .returned (.int .i64 (clI x)) ∧ w = w' := by
 obtain ⟨k, a, b, e0, h1, h2, h3⟩ := cl_parts x
 generalize clI x = c at *
 rcases h1 with ⟨e1, e2⟩ | ⟨e1, rfl⟩ <;> rcases h2 with ⟨e3, e4⟩ | ⟨e3, rfl⟩ <;> rcases h3 with ⟨e5, e6⟩ | ⟨e5, rfl⟩
 all_goals
  go_enter Tryz.func37, Tryz.ntmps37
  go_wp2
  go_ret
  exact ⟨rfl, rfl⟩
end

section
open Go.ChangeShapes Go.WideShapes Go.ChangeAt Go.RowKit
theorem gKinds : Tryz.prog.globalNamed "burgage/level.kinds" = some 0 := by kernel_rfl
theorem gKindsType : (Tryz.prog.globals[0]?).map (·.type) = some 158 := by kernel_rfl
theorem cellsKind : Tryz.prog.cellsOf 157 = 2 := by kernel_rfl
theorem cellsStr : Tryz.prog.cellsOf 9 = 1 := by kernel_rfl
theorem cellsInt : Tryz.prog.cellsOf 3 = 1 := by kernel_rfl
theorem laidKinds {H : Type} : (Rows.laid_burgage_level_kinds : DataW H) = .agg ((List.range 12).map fun k => .agg [.lit (.string (nameL.getD k [])), .lit (.int .i64 (askAt k))]) := rfl
theorem kinds_of {W : World} (h : laidMetH Tryz.prog [("burgage/level.kinds", Rows.laid_burgage_level_kinds)] W) : Kinds W := by
 obtain ⟨ps, ⟨g', t', cs, fuel, p, q, hg', ht', hvar, hd, _, _⟩, _⟩ := h
 obtain rfl := Option.some.inj (gKinds.symm.trans hg')
 obtain rfl := Option.some.inj (gKindsType.symm.trans ht')
 obtain ⟨xs, m, rfl, hx, hlen, hxl, hat⟩ := DataW.trod_array Tryz.underlying158 hd
 intro k hk
 have h1 := hat k hk
 have hxk : xs[k]? = some xs[k] := List.getElem?_eq_getElem (by omega)
 rw [hxk, cellsKind] at h1
 obtain ⟨y0, y1, n, hy, hcl, h2, h3⟩ := trod_struct2 Tryz.underlying157 h1
 have hdat := congrArg Prod.fst hx
 rw [laidKinds] at hdat
 simp only [DataW.agg.injEq] at hdat
 have hk2 := congrArg (·[k]?) hdat
 simp only [List.getElem?_map, hxk, Option.map_some, List.getElem?_range hk, hy, Option.some.injEq, DataW.agg.injEq, List.cons.injEq, and_true] at hk2
 obtain ⟨e0, e1⟩ := hk2
 rw [cellsStr] at h2
 rw [cellsInt] at h3
 obtain ⟨s, c0, rfl, _⟩ := DataW.trod_string Tryz.underlying9 h2
 obtain ⟨z, c1, rfl, _⟩ := DataW.trod_int Tryz.underlying3 h3
 simp only [DataW.lit.injEq, Lit.string.injEq, Lit.int.injEq, true_and] at e0 e1
 have hs : s = nameAt k := by unfold nameAt; rw [e0]
 subst hs
 subst e1
 constructor
 ·rw [World.var?_cell gKinds hvar]
  have := congrArg (·[0]?) c0
  simpa [List.getElem?_take, List.getElem?_drop] using this
 ·rw [World.var?_cell gKinds hvar]
  have := congrArg (·[0]?) c1
  simpa [List.getElem?_take, List.getElem?_drop] using this
def leafS : DataW Unit → List Value
 | .lit (.int k n) => [.int k n]
 | .lit (.bool b) => [.bool b]
 | .lit (.string l) => [.string ⟨l.toArray⟩]
 | _ => []
def leafSS : DataW Unit → List Value
 | .agg ds => ds.flatMap fun d => match d with
  | .agg es => es.flatMap leafS
  | d => leafS d
 | d => leafS d
def setS (h : Array Obj) (g : Nat) (d : DataW Unit) : Array Obj := h.modify g fun
 | .cells _ t frozen => .cells (leafSS d).toArray t frozen
 | o => o
end

section
open Go.ChangeShapes Go.WideShapes Go.ChangeAt Go.RowKit
def listTK {H : Type} : List (String × DataW H) := [("math/bits.deBruijn64tab", Rows.laid_math_bits_deBruijn64tab), ("burgage/level.kinds", Rows.laid_burgage_level_kinds)]
theorem tab_of_two {W : World} (h : laidMetH Tryz.prog listTK W) : Tab W := by
 have ht : Lib.TabIs Tryz.prog W "math/bits.deBruijn64tab" .u8 deB :=
  Lib.tabIs_of_head (rest := [("burgage/level.kinds", Rows.laid_burgage_level_kinds)]) gTab gTabType Tryz.underlying241 Tryz.underlying5 cellsU8 cellsTab h
 intro i hi
 exact ht.cell gTab i hi
theorem kinds_of_two {W : World} (h : laidMetH Tryz.prog listTK W) : Kinds W := kinds_of (laidMet.tail h)
noncomputable def laidWorldTK (os : Os) : World :=
 { World.holding Tryz.prog os ⟨#[], #[], []⟩ with heap := setS (setS (World.holding Tryz.prog os ⟨#[], #[], []⟩).heap 1 Rows.laid_math_bits_deBruijn64tab) 0 Rows.laid_burgage_level_kinds }
end

section
open Go.RowKit
def Row (w : World) (v : Value) (n size : Nat) (cs : List Value) : Prop :=
 cs.length = n * size ∧ ∃ ao cap, v = .slice ao n cap ∧ (n ≤ cap ∧ cap ≤ maxLen) ∧ (ao = none → n = 0 ∧ cap = 0) ∧ (0 < n → ∃ b off, ao = some ⟨b, off, none⟩ ∧ ∀ i, i < n * size → w.cell? ⟨b, off + i, none⟩ = cs[i]?)
def Ints (w : World) (v : Value) (xs : List Int) : Prop := Row w v xs.length 1 (xs.map (Value.int .i64))
theorem block_lt {w : World} {a : Addr} {v : Value} (h : w.cell? a = some v) : a.block < w.heap.size := by
 by_cases h0 : a.block < w.heap.size
 ·exact h0
 ·simp [World.cell?, Array.getElem?_eq_none (Nat.le_of_not_lt h0)] at h
theorem Row.below {w w' : World} {v : Value} {n size : Nat} {cs : List Value} (h : Row w v n size cs) (hb : Below w.heap.size w w') : Row w' v n size cs := by
 obtain ⟨hl, ao, cap, rfl, hm, hno, hc⟩ := h
 refine ⟨hl, ao, cap, rfl, hm, hno, fun hn => ?_⟩
 obtain ⟨b, off, rfl, hcell⟩ := hc hn
 refine ⟨b, off, rfl, fun i hi => ?_⟩
 have h1 := hcell i hi
 have h2 : cs[i]? = some cs[i] := List.getElem?_eq_getElem (by omega)
 rw [h2] at h1
 have hlt := block_lt h1
 rw [hb.cell (p := ⟨b, off + i, none⟩) hlt, h1, h2]
theorem Ints.below {w w' : World} {v : Value} {xs : List Int} (h : Ints w v xs) (hb : Below w.heap.size w w') : Ints w' v xs := Row.below h hb
theorem Row.of_owns {w : World} {base : Nat} {e : TypeId} {size : Nat} {v : Value} {n : Nat} {cs : List Value} (h : w.ownsRow base e size v n cs) : Row w v n size cs := by
 obtain ⟨hl, h⟩ := h
 refine ⟨hl, ?_⟩
 rcases h with ⟨rfl, rfl⟩ | ⟨g, cap, cur, rfl, hb, hh, hn, hm, hs, ht⟩
 ·exact ⟨none, 0, rfl, by simp, fun _ => ⟨rfl, rfl⟩, fun h => by omega⟩
 ·refine ⟨some ⟨g, 0, none⟩, cap, rfl, by omega, fun h => (by cases h), fun _ => ⟨g, 0, rfl, fun i hi => ?_⟩⟩
  have hown : w.ownsRow base e size (.slice (some ⟨g, 0, none⟩) n cap) n cs := ⟨hl, .inr ⟨g, cap, cur, rfl, hb, hh, hn, hm, hs, ht⟩⟩
  have := hown.cellAt i hi
  simpa using this
theorem Ints.of_owns {w : World} {base : Nat} {e : TypeId} {v : Value} {n : Nat} {xs : List Int} (h : w.ownsRow base e 1 v n (xs.map (Value.int .i64))) : Ints w v xs := by
 have hr := Row.of_owns h
 have hn : n = xs.length := by have := h.1; simp at this; omega
 subst hn; exact hr
theorem Ints.form {w : World} {v : Value} {xs : List Int} (h : Ints w v xs) : ∃ ao cap, v = .slice ao xs.length cap ∧ xs.length ≤ 9223372036854775807 := by
 obtain ⟨_, ao, cap, rfl, hm, _, _⟩ := h
 exact ⟨ao, cap, rfl, Nat.le_trans hm.1 hm.2⟩
theorem Ints.at {w : World} {ao : Option Addr} {n cap : Nat} {xs : List Int} (h : Ints w (.slice ao n cap) xs) {k : Nat} (hk : k < xs.length) :
  ∃ b off, ao = some ⟨b, off, none⟩ ∧ w.cell? ⟨b, off + k, none⟩ = some (.int .i64 xs[k]) := by
 obtain ⟨_, ao', cap', he, hm, _, hc⟩ := h
 obtain ⟨rfl, _, _⟩ : ao = ao' ∧ n = xs.length ∧ cap = cap' := by simpa using he
 obtain ⟨b, off, rfl, hcell⟩ := hc (by omega)
 refine ⟨b, off, rfl, ?_⟩
 rw [hcell k (by omega)]
 simp [List.getElem?_eq_getElem hk]
theorem owns_below {w w' : World} {base : Nat} {e : TypeId} {size : Nat} {v : Value} {n : Nat} {cs : List Value} (h : w.ownsRow base e size v n cs) (hb : Below w.heap.size w w') : w'.ownsRow base e size v n cs :=
 h.kept (row := none) ⟨hb.os, hb.tape, hb.output, hb.size, fun k hk _ => hb.block k hk⟩ (by cases v.ownBlock <;> simp)
theorem wpList_append_row {P : Program} {w : World} {ops : Array Oper} {rest : List Oper} {o : Oper} {a : Act} {Q : Exit → Act → World → Prop} (hgd : o.guard = none) (s x : Operand) (t : TypeId)
  (ho : o.op = .call { callee := .builtin .append, args := #[s, x], argTypes := #[t, t] })
  (base : Nat) (e : TypeId) (i : TypeInfo) (z : Value) (size bytes : Nat) (ht : P.underlying t = some (.slice e)) (hi : P.info? e = some i) (hz : i.zero = some z)
  (hsize : i.size = size) (hby : i.bytes = bytes) (hzs : z.cells.size = size) (hsz : 0 < size)
  (v : Value) (n : Nat) (xs : List Value) (hs : a.eval s = v) (hown : w.ownsRow base e size v n xs)
  (sv : Value) (m : Nat) (news : List Value) (hx : a.eval x = sv) (hsrc : Row w sv m size news) (h1 : ∀ u ∈ news, u.oneCell' = true)
  (h63 : n + m ≤ maxLen) (hbytes : (n + m) * bytes ≤ 140737488355328) (hbase : base ≤ w.heap.size)
  (h : ∀ v' w', w'.ownsRow base e size v' (n + m) (xs ++ news) → w.grownBy w' v.ownBlock → wpList P ops Q rest (a.put o.dst v') w') : wpList P ops Q (o :: rest) a w := by
 obtain ⟨hl, ao, cap, rfl, _, hno, hc⟩ := hsrc
 cases ao with
 | none =>
  obtain ⟨rfl, rfl⟩ := hno rfl
  have hnews : news = [] := List.eq_nil_of_length_eq_zero (by simpa using hl)
  subst hnews
  exact wpList_append_own_none hgd s x t ho base e i size ht hi v n xs hs hown hx (by simpa using h v w (by simpa using hown) (World.grownBy.refl _ _))
 | some ad =>
  refine wpList_append_own w hgd s x t ho base e i z size bytes ht hi hz hsize hby hzs hsz v n xs hs hown ad m cap news hx hl ?_ h1 h63 hbytes hbase (fun v' w' h2 h3 _ => h v' w' h2 h3)
  intro j u hu
  have hj : j < news.length := (List.getElem?_eq_some_iff.1 hu).1
  have hm : 0 < m := by
   rcases Nat.eq_zero_or_pos m with h0 | h0
   ·subst h0; rw [Nat.zero_mul] at hl; omega
   ·exact h0
  obtain ⟨b, off, he, hcell⟩ := hc hm
  obtain rfl := Option.some.inj he
  rw [Addr.add_lit, hcell j (by omega), hu]
end

section
open Go.RowKit
def IntOk (n : Int) : Prop := -9223372036854775808 ≤ n ∧ n ≤ 9223372036854775807
structure OpV where
 wr : Bool
 key : Int
 val : Int
def OpV.v (o : OpV) : Value := .agg #[.bool o.wr, .int .i64 o.key, .int .i64 o.val]
def OpV.ok (o : OpV) : Prop := IntOk o.key ∧ IntOk o.val
def opZ : OpV := ⟨false, 0, 0⟩
def mayO (o : OpV) : Bool := (decide (0 ≤ o.key) && decide (o.key < 64)) && (decide (0 ≤ o.val) && decide (o.val ≤ 2147483647)) && (!o.wr || o.val != 0)
theorem mayO_iff (o : OpV) : mayO o = true ↔ (0 ≤ o.key ∧ o.key < 64) ∧ (0 ≤ o.val ∧ o.val ≤ 2147483647) ∧ (o.wr = true → o.val ≠ 0) := by
 obtain ⟨wr, key, val⟩ := o
 unfold mayO
 cases wr <;> simp [and_assoc]
theorem box_below (w : World) (o : Obj) : Below w.heap.size w (w.alloc o) := (Below.refl _ _).alloc (Nat.le_refl _) _
theorem right_any (wr : Bool) (key val : Int) (w : World) :
  Calls Tryz.prog 194 #[.agg #[.bool wr, .int .i64 key, .int .i64 val]] w fun e w' => e = .returned (.bool (mayO ⟨wr, key, val⟩)) ∧ Below w.heap.size w w' := by
 have hi := mayO_iff ⟨wr, key, val⟩
 by_cases h : mayO ⟨wr, key, val⟩ = true
 ·obtain ⟨⟨h1, h2⟩, ⟨h3, h4⟩, h5⟩ := hi.1 h
  have HM := hid h
  have c1 : ¬ key < 0 := by simpa using h1
  have c2 : ¬ (64 : Int) ≤ key := by simp at h2; omega
  have c3 : ¬ val < 0 := by simpa using h3
  have c4 : ¬ (2147483647 : Int) < val := by simp at h4; omega
  simp only at h1 h2 h3 h4 h5
  clear h hi
  cases wr
  ·clear h5
   go_enter Tryz.func194, Tryz.ntmps194
   go_wp2_with fail
   go_ret
   exact ⟨ret_b HM.out.symm, box_below _ _⟩
  ·have c5 : (val != 0) = true := by rw [bne_iff_ne]; exact h5 rfl
   clear h5
   go_enter Tryz.func194, Tryz.ntmps194
   go_wp2_with fail
   go_ret
   exact ⟨ret_b HM.out.symm, box_below _ _⟩
 ·have HM : Hid (mayO ⟨wr, key, val⟩ = false) := hid (by simpa using h)
  have hn : ¬ ((0 ≤ key ∧ key < 64) ∧ (0 ≤ val ∧ val ≤ 2147483647) ∧ (wr = true → val ≠ 0)) := fun k => h (hi.2 k)
  clear h hi
  by_cases c1 : key < 0
  ·go_enter Tryz.func194, Tryz.ntmps194
   clear hn
   go_wp2_with fail
   go_ret
   exact ⟨ret_b HM.out.symm, box_below _ _⟩
  by_cases c2 : (64 : Int) ≤ key
  ·clear hn
   go_enter Tryz.func194, Tryz.ntmps194
   go_wp2_with fail
   go_ret
   exact ⟨ret_b HM.out.symm, box_below _ _⟩
  by_cases c3 : val < 0
  ·clear hn
   go_enter Tryz.func194, Tryz.ntmps194
   go_wp2_with fail
   go_ret
   exact ⟨ret_b HM.out.symm, box_below _ _⟩
  by_cases c4 : (2147483647 : Int) < val
  ·clear hn
   go_enter Tryz.func194, Tryz.ntmps194
   go_wp2_with fail
   go_ret
   exact ⟨ret_b HM.out.symm, box_below _ _⟩
  cases wr
  ·exfalso; apply hn; exact ⟨⟨by omega, by omega⟩, ⟨by omega, by omega⟩, fun h => by cases h⟩
  ·have hv : val = 0 := by
    by_cases h : val = 0
    ·exact h
    ·exfalso; apply hn; exact ⟨⟨by omega, by omega⟩, ⟨by omega, by omega⟩, fun _ => h⟩
   subst hv
   clear hn
   go_enter Tryz.func194, Tryz.ntmps194
   go_wp2_with fail
   go_ret
   exact ⟨ret_b HM.out.symm, box_below _ _⟩
theorem below_then {w0 w1 w2 : World} (h : Below w0.heap.size w0 w1) (k : Below w1.heap.size w1 w2) : Below w0.heap.size w0 w2 := h.trans (k.mono h.size)
theorem opBlock (w : World) (x y z : Value) (t : TypeId) : (w.alloc (.cells #[x, y, z] t)).cell? ⟨w.heap.size, 0, none⟩ = some x ∧ (w.alloc (.cells #[x, y, z] t)).cell? ⟨w.heap.size, 1, none⟩ = some y ∧ (w.alloc (.cells #[x, y, z] t)).cell? ⟨w.heap.size, 2, none⟩ = some z := by
 refine ⟨?_, ?_, ?_⟩ <;> simp
def opV (l : List OpV) : List Value := l.flatMap fun o => [.bool o.wr, .int .i64 o.key, .int .i64 o.val]
theorem opV_len (l : List OpV) : (opV l).length = l.length * 3 := by
 induction l with
 | nil => rfl
 | cons a l ih => unfold opV at *; rw [List.flatMap_cons, List.length_append, ih]; simp; omega
theorem opV_at : ∀ (l : List OpV) (k : Nat) (hk : k < l.length), (opV l)[k * 3]? = some (.bool l[k].wr) ∧ (opV l)[k * 3 + 1]? = some (.int .i64 l[k].key) ∧ (opV l)[k * 3 + 2]? = some (.int .i64 l[k].val)
 | a :: l, 0, _ => ⟨rfl, rfl, rfl⟩
 | a :: l, k + 1, hk => by
  obtain ⟨h0, h1, h2⟩ := opV_at l k (by simpa using hk)
  have e : ∀ j, (opV (a :: l))[(k + 1) * 3 + j]? = (opV l)[k * 3 + j]? := fun j => by
   unfold opV
   rw [List.flatMap_cons, show (k + 1) * 3 + j = 3 + (k * 3 + j) from by omega]
   rw [List.getElem?_append_right (by simp)]
   simp
  exact ⟨(e 0).trans h0, (e 1).trans h1, (e 2).trans h2⟩
def Ops (w : World) (v : Value) (l : List OpV) : Prop := Row w v l.length 3 (opV l)
theorem Ops.below {w w' : World} {v : Value} {l : List OpV} (h : Ops w v l) (hb : Below w.heap.size w w') : Ops w' v l := Row.below h hb
theorem Ops.form {w : World} {v : Value} {l : List OpV} (h : Ops w v l) : ∃ ao cap, v = .slice ao l.length cap ∧ l.length ≤ 9223372036854775807 := by
 obtain ⟨_, ao, cap, rfl, hm, _, _⟩ := h
 exact ⟨ao, cap, rfl, Nat.le_trans hm.1 hm.2⟩
theorem Ops.at {w : World} {ao : Option Addr} {n cap : Nat} {l : List OpV} (h : Ops w (.slice ao n cap) l) {k : Nat} (hk : k < l.length) :
  ∃ b off, ao = some ⟨b, off, none⟩ ∧ w.cell? ⟨b, off + k * 3, none⟩ = some (.bool l[k].wr) ∧ w.cell? ⟨b, off + k * 3 + 1, none⟩ = some (.int .i64 l[k].key) ∧ w.cell? ⟨b, off + k * 3 + 2, none⟩ = some (.int .i64 l[k].val) := by
 obtain ⟨_, ao', cap', he, hm, _, hc⟩ := h
 obtain ⟨rfl, _, _⟩ : ao = ao' ∧ n = l.length ∧ cap = cap' := by simpa using he
 obtain ⟨b, off, rfl, hcell⟩ := hc (by omega)
 obtain ⟨h0, h1, h2⟩ := opV_at l k hk
 refine ⟨b, off, rfl, ?_, ?_, ?_⟩
 ·rw [hcell (k * 3) (by omega), h0]
 ·rw [Nat.add_assoc, hcell (k * 3 + 1) (by omega), h1]
 ·rw [Nat.add_assoc, hcell (k * 3 + 2) (by omega), h2]
def allM (l : List OpV) : Bool := l.all mayO
theorem allM_succ (l : List OpV) (k : Nat) (hk : k < l.length) : allM (l.take (k + 1)) = (allM (l.take k) && mayO l[k]) := by
 unfold allM; rw [List.take_succ_eq_append_getElem hk, List.all_append]; simp
theorem allM_no (l : List OpV) (k : Nat) (hk : k < l.length) (h : mayO l[k] = false) : allM l = false := by
 unfold allM; exact List.all_eq_false.2 ⟨l[k], List.getElem_mem hk, by simp [h]⟩
end

section
open Go.ChangeShapes Go.WideShapes Go.ChangeAt Go.RowKit Go.Deep
theorem cellsOp : Tryz.prog.cellsOf 56 = 3 := by kernel_rfl
theorem ops_of_cells {H : Type} {enc : TypeId × Value → H} {W : World} {v : Value} {fuel : Nat} {x : DataW H × List MemPlace}
  (hf : DataW.trod enc Tryz.prog W 0 (fun _ => true) true fuel 57 [v] = some x) : ∃ l, Ops W v l ∧ (∀ o ∈ l, o.ok) ∧ ((∀ n ∈ DataW.weights Tryz.prog 57 x.1, n ≤ reachBytes) → l.length ≤ 6000000000000) := by
 rcases open_slice Tryz.underlying57 hf with ⟨hcs, _⟩ | ⟨a, len, cap, m, n, D, Pl, hcs, _, hl, hm, hmm, hx, hi⟩
 ·obtain rfl : v = .slice none 0 0 := by simpa using hcs
  exact ⟨[], ⟨rfl, none, 0, rfl, by simp, (fun _ => ⟨rfl, rfl⟩), (fun h => by simp at h)⟩, by simp, by simp⟩
 ·obtain rfl : v = .slice (some a) len cap := by simpa using hcs
  simp only [if_true] at hmm
  have key : ∀ i, ∃ o : OpV, i < len → o.ok ∧ W.cell? ((a.add (i * 3)).add 0) = some (.bool o.wr) ∧ W.cell? ((a.add (i * 3)).add 1) = some (.int .i64 o.key) ∧ W.cell? ((a.add (i * 3)).add 2) = some (.int .i64 o.val) := fun i => by
   by_cases hlt : i < len
   ·obtain ⟨cs', hc, ht⟩ := hi i (by omega)
    rw [cellsOp] at hc
    obtain ⟨_, hcl, hat⟩ := World.cells?_some hc
    obtain ⟨y0, y1, y2, n', _, _, h0, h1, h2⟩ := trod_struct3 Tryz.underlying56 ht
    match cs', hcl with
    | [x0, x1, x2], _ =>
     obtain ⟨b, e0, _⟩ := DataW.trod_bool Tryz.underlying4 h0
     obtain ⟨k, e1, _, w1⟩ := DataW.trod_int Tryz.underlying3 h1
     obtain ⟨z, e2, _, w2⟩ := DataW.trod_int Tryz.underlying3 h2
     have k0 : Tryz.prog.cellsOf 4 = 1 := by kernel_rfl
     have k1 : Tryz.prog.cellsOf 3 = 1 := by kernel_rfl
     simp [k0, k1] at e0 e1 e2
     subst e0; subst e1; subst e2
     exact ⟨⟨b, k, z⟩, fun _ => ⟨⟨bounds_i64 w1, bounds_i64 w2⟩, hat 0 (by omega), hat 1 (by omega), hat 2 (by omega)⟩⟩
   ·exact ⟨opZ, fun h => absurd h hlt⟩
  obtain ⟨O, hO⟩ := Classical.skolem.1 key
  have hlen : ((List.range len).map O).length = len := by simp
  have hel : ∀ (i : Nat) (h : i < ((List.range len).map O).length), ((List.range len).map O)[i] = O i := fun i h => by simp
  refine ⟨(List.range len).map O, ?_, ?_, ?_⟩
  ·generalize (List.range len).map O = l at *
   subst hlen
   refine ⟨opV_len l, some a, cap, rfl, ⟨hl, hm⟩, (fun h => by cases h), fun hn => ?_⟩
   obtain ⟨b, off, spot⟩ := a
   have hspot : spot = none := by
    have := (hO 0 hn).2.1
    simpa [Addr.add] using World.cell?_spot this
   subst hspot
   refine ⟨b, off, rfl, fun i hii => ?_⟩
   have hk : i / 3 < l.length := by omega
   obtain ⟨_, c0, c1, c2⟩ := hO (i / 3) hk
   simp only [Addr.add_lit] at c0 c1 c2
   obtain ⟨e0, e1, e2⟩ := opV_at l (i / 3) hk
   rw [hel _ hk] at e0 e1 e2
   have hm3 : i % 3 = 0 ∨ i % 3 = 1 ∨ i % 3 = 2 := by omega
   rcases hm3 with h | h | h
   ·rw [show i = i / 3 * 3 from by omega, e0, ← c0]; rfl
   ·rw [show i = i / 3 * 3 + 1 from by omega, e1, ← c1, ← Nat.add_assoc]
   ·rw [show i = i / 3 * 3 + 2 from by omega, e2, ← c2, ← Nat.add_assoc]
  ·intro o ho
   obtain ⟨i, hi2, rfl⟩ := List.mem_map.1 ho
   exact (hO i (List.mem_range.1 hi2)).1
  ·intro hw
   rw [hlen]
   have hb24 : Tryz.prog.bytesOf 56 = 24 := by kernel_rfl
   have := hw ((((List.range len).map D).length + ((List.range (m - len)).map fun j => D (len + j)).length) * Tryz.prog.bytesOf 56) (by rw [hx]; simp [DataW.weights, Tryz.underlying57])
   rw [hb24] at this
   unfold reachBytes at this
   simp at this
   omega
end

section
open Go.RowKit
structure TxnV where
 s : Int
 b : Int
 c : Int
 v : Value
 l : List OpV
def TxnV.ok (t : TxnV) : Prop := (IntOk t.s ∧ IntOk t.b ∧ IntOk t.c) ∧ ∀ o ∈ t.l, o.ok
def txV (h : List TxnV) : List Value := h.flatMap fun t => [.int .i64 t.s, .int .i64 t.b, .int .i64 t.c, t.v]
theorem txV_len (h : List TxnV) : (txV h).length = h.length * 4 := by
 induction h with
 | nil => rfl
 | cons a l ih => unfold txV at *; rw [List.flatMap_cons, List.length_append, ih]; simp; omega
theorem txV_at : ∀ (l : List TxnV) (k : Nat) (hk : k < l.length), (txV l)[k * 4]? = some (.int .i64 l[k].s) ∧ (txV l)[k * 4 + 1]? = some (.int .i64 l[k].b) ∧ (txV l)[k * 4 + 2]? = some (.int .i64 l[k].c) ∧ (txV l)[k * 4 + 3]? = some l[k].v
 | a :: l, 0, _ => ⟨rfl, rfl, rfl, rfl⟩
 | a :: l, k + 1, hk => by
  obtain ⟨h0, h1, h2, h3⟩ := txV_at l k (by simpa using hk)
  have e : ∀ j, (txV (a :: l))[(k + 1) * 4 + j]? = (txV l)[k * 4 + j]? := fun j => by
   unfold txV
   rw [List.flatMap_cons, show (k + 1) * 4 + j = 4 + (k * 4 + j) from by omega]
   rw [List.getElem?_append_right (by simp)]
   simp
  exact ⟨(e 0).trans h0, (e 1).trans h1, (e 2).trans h2, (e 3).trans h3⟩
def Txns (w : World) (v : Value) (h : List TxnV) : Prop := Row w v h.length 4 (txV h) ∧ ∀ t ∈ h, Ops w t.v t.l
theorem Txns.below {w w' : World} {v : Value} {h : List TxnV} (hT : Txns w v h) (hb : Below w.heap.size w w') : Txns w' v h := ⟨Row.below hT.1 hb, fun t ht => (hT.2 t ht).below hb⟩
theorem Txns.form {w : World} {v : Value} {l : List TxnV} (h : Txns w v l) : ∃ ao cap, v = .slice ao l.length cap ∧ l.length ≤ 9223372036854775807 := by
 obtain ⟨⟨_, ao, cap, rfl, hm, _, _⟩, _⟩ := h
 exact ⟨ao, cap, rfl, Nat.le_trans hm.1 hm.2⟩
theorem Txns.at {w : World} {ao : Option Addr} {n cap : Nat} {l : List TxnV} (h : Txns w (.slice ao n cap) l) {k : Nat} (hk : k < l.length) :
  ∃ b off, ao = some ⟨b, off, none⟩ ∧ w.cell? ⟨b, off + k * 4, none⟩ = some (.int .i64 l[k].s) ∧ w.cell? ⟨b, off + k * 4 + 1, none⟩ = some (.int .i64 l[k].b) ∧ w.cell? ⟨b, off + k * 4 + 2, none⟩ = some (.int .i64 l[k].c) ∧ w.cell? ⟨b, off + k * 4 + 3, none⟩ = some l[k].v := by
 obtain ⟨⟨_, ao', cap', he, hm, _, hc⟩, _⟩ := h
 obtain ⟨rfl, _, _⟩ : ao = ao' ∧ n = l.length ∧ cap = cap' := by simpa using he
 obtain ⟨b, off, rfl, hcell⟩ := hc (by omega)
 obtain ⟨h0, h1, h2, h3⟩ := txV_at l k hk
 refine ⟨b, off, rfl, ?_, ?_, ?_, ?_⟩
 ·rw [hcell (k * 4) (by omega), h0]
 ·rw [Nat.add_assoc, hcell (k * 4 + 1) (by omega), h1]
 ·rw [Nat.add_assoc, hcell (k * 4 + 2) (by omega), h2]
 ·rw [Nat.add_assoc, hcell (k * 4 + 3) (by omega), h3]
theorem Txns.ops {w : World} {v : Value} {l : List TxnV} (h : Txns w v l) {k : Nat} (hk : k < l.length) : Ops w l[k].v l[k].l := h.2 _ (List.getElem_mem hk)
end

section
open Go.ChangeShapes Go.WideShapes Go.ChangeAt Go.RowKit Go.Deep
theorem cellsTxn : Tryz.prog.cellsOf 59 = 4 := by kernel_rfl
theorem weightsAll_mem {H : Type} {P : Program} {e : TypeId} {d : DataW H} {n : Nat} (hn : n ∈ d.weights P e) : ∀ {ds : List (DataW H)}, d ∈ ds → n ∈ DataW.weightsAll P e ds
 | a :: ds, h => by
  unfold DataW.weightsAll
  rcases List.mem_cons.1 h with rfl | h
  ·exact List.mem_append_left _ hn
  ·exact List.mem_append_right _ (weightsAll_mem hn h)
theorem txns_of_trod {H : Type} {enc : TypeId × Value → H} {W : World} {base : Nat} {v : Value} {d : DataW H} {p : List MemPlace}
  (hval : Value.okWide Tryz.prog W .any base 22 v) (h : DataW.Trod enc Tryz.prog W 0 (fun _ => true) true 22 v d p) (hwt : ∀ n ∈ DataW.weights Tryz.prog 22 d, n ≤ reachBytes) : ∃ l, Txns W v l ∧ (∀ t ∈ l, t.ok) ∧ ∀ t ∈ l, t.l.length ≤ 6000000000000 := by
 obtain ⟨a0, len, cap, rfl⟩ := okWide_slice Tryz.underlying22 hval
 obtain ⟨fuel, hf⟩ := h
 rcases open_slice Tryz.underlying22 hf with ⟨hcs, _⟩ | ⟨a, len', cap', m, n, D, Pl, hcs, _, hl, hm, hmm, hx, hi⟩
 ·simp [Value.cells] at hcs
  obtain ⟨rfl, rfl, rfl⟩ := hcs
  exact ⟨[], ⟨⟨rfl, none, 0, rfl, by simp, (fun _ => ⟨rfl, rfl⟩), (fun h => by simp at h)⟩, by simp⟩, by simp, by simp⟩
 ·simp [Value.cells] at hcs
  obtain ⟨rfl, rfl, rfl⟩ := hcs
  simp only [if_true] at hmm
  have key : ∀ i, ∃ t : TxnV, i < len → (t.ok ∧ t.l.length ≤ 6000000000000) ∧ Ops W t.v t.l ∧ W.cell? ((a.add (i * 4)).add 0) = some (.int .i64 t.s) ∧ W.cell? ((a.add (i * 4)).add 1) = some (.int .i64 t.b) ∧ W.cell? ((a.add (i * 4)).add 2) = some (.int .i64 t.c) ∧ W.cell? ((a.add (i * 4)).add 3) = some t.v := fun i => by
   by_cases hlt : i < len
   ·obtain ⟨cs', hc, ht⟩ := hi i (by omega)
    rw [cellsTxn] at hc
    obtain ⟨_, hcl, hat⟩ := World.cells?_some hc
    obtain ⟨y0, y1, y2, y3, n', hy, _, h0, h1, h2, h3⟩ := Joins.trod_struct4 Tryz.underlying59 ht
    match cs', hcl with
    | [x0, x1, x2, x3], _ =>
     obtain ⟨s, e0, _, w0⟩ := DataW.trod_int Tryz.underlying3 h0
     obtain ⟨b, e1, _, w1⟩ := DataW.trod_int Tryz.underlying3 h1
     obtain ⟨c, e2, _, w2⟩ := DataW.trod_int Tryz.underlying3 h2
     have k1 : Tryz.prog.cellsOf 3 = 1 := by kernel_rfl
     have k3 : Tryz.prog.cellsOf 57 = 1 := by kernel_rfl
     simp [k1] at e0 e1 e2
     subst e0; subst e1; subst e2
     simp [k3] at h3
     obtain ⟨l, hlo, hok, hlw⟩ := ops_of_cells h3
     have hll := hlw (fun q hq => hwt q (by
      rw [show d = _ from congrArg Prod.fst hx]
      simp only [DataW.weights, Tryz.underlying22]
      refine List.mem_cons_of_mem _ (List.mem_append_left _ (weightsAll_mem (d := D i) ?_ (List.mem_map.2 ⟨i, List.mem_range.2 hlt, rfl⟩)))
      have hy1 := congrArg Prod.fst hy
      rw [show D i = _ from hy1]
      simp only [DataW.weights, Tryz.underlying59, DataW.weightsEach, List.map_cons, List.map_nil]
      simp [hq]))
     exact ⟨⟨s, b, c, x3, l⟩, fun _ => ⟨⟨⟨⟨bounds_i64 w0, bounds_i64 w1, bounds_i64 w2⟩, hok⟩, hll⟩, hlo, hat 0 (by omega), hat 1 (by omega), hat 2 (by omega), hat 3 (by omega)⟩⟩
   ·exact ⟨⟨0, 0, 0, .nilIface, []⟩, fun h => absurd h hlt⟩
  obtain ⟨O, hO⟩ := Classical.skolem.1 key
  have hlen : ((List.range len).map O).length = len := by simp
  have hel : ∀ (i : Nat) (h : i < ((List.range len).map O).length), ((List.range len).map O)[i] = O i := fun i h => by simp
  refine ⟨(List.range len).map O, ⟨?_, ?_⟩, ?_, ?_⟩
  ·generalize (List.range len).map O = l at *
   subst hlen
   refine ⟨txV_len l, some a, cap, rfl, ⟨hl, hm⟩, (fun h => by cases h), fun hn => ?_⟩
   obtain ⟨b, off, spot⟩ := a
   have hspot : spot = none := by
    have := (hO 0 hn).2.2.1
    simpa [Addr.add] using World.cell?_spot this
   subst hspot
   refine ⟨b, off, rfl, fun i hii => ?_⟩
   have hk : i / 4 < l.length := by omega
   obtain ⟨_, _, c0, c1, c2, c3⟩ := hO (i / 4) hk
   simp only [Addr.add_lit] at c0 c1 c2 c3
   obtain ⟨e0, e1, e2, e3⟩ := txV_at l (i / 4) hk
   rw [hel _ hk] at e0 e1 e2 e3
   have hm4 : i % 4 = 0 ∨ i % 4 = 1 ∨ i % 4 = 2 ∨ i % 4 = 3 := by omega
   rcases hm4 with h | h | h | h
   ·rw [show i = i / 4 * 4 from by omega, e0, ← c0]; rfl
   ·rw [show i = i / 4 * 4 + 1 from by omega, e1, ← c1, ← Nat.add_assoc]
   ·rw [show i = i / 4 * 4 + 2 from by omega, e2, ← c2, ← Nat.add_assoc]
   ·rw [show i = i / 4 * 4 + 3 from by omega, e3, ← c3, ← Nat.add_assoc]
  ·intro t ht
   obtain ⟨i, hi2, rfl⟩ := List.mem_map.1 ht
   exact (hO i (List.mem_range.1 hi2)).2.1
  ·intro t ht
   obtain ⟨i, hi2, rfl⟩ := List.mem_map.1 ht
   exact (hO i (List.mem_range.1 hi2)).1.1
  ·intro t ht
   obtain ⟨i, hi2, rfl⟩ := List.mem_map.1 ht
   exact (hO i (List.mem_range.1 hi2)).1.2
end

section
open Go.RowKit
theorem block_lt' {w : World} {a : Addr} {v : Value} (h : w.cell? a = some v) : a.block < w.heap.size := by
 by_cases h0 : a.block < w.heap.size
 ·exact h0
 ·simp [World.cell?, Array.getElem?_eq_none (Nat.le_of_not_lt h0)] at h
theorem Kinds.below {w w' : World} (h : Kinds w) (hb : Below w.heap.size w w') : Kinds w' := fun k hk => by
 obtain ⟨h1, h2⟩ := h k hk
 exact ⟨(hb.cell (block_lt' h1)).trans h1, (hb.cell (block_lt' h2)).trans h2⟩
end

section
open Go.RowKit
def missN (a b : Int) : Nat := askN b ^^^ (askN b &&& clN (askN a))
def impB (a b : Int) : Bool := isLv a && (isLv b && decide (missN a b = 0))
theorem clI_ask (a : Int) : clI (askN a : Int) = clN (askN a) := by
 have h := askN_lt a
 unfold clI
 have e : ((askN a : Nat) : Int) % 64 = (askN a : Int) := by omega
 rw [e, Int.toNat_natCast]
theorem lmiss_any (a b : Int) (w : World) (hK : Kinds w) : Calls Tryz.prog 92 #[.int .i64 a, .int .i64 b] w fun e w' => e = .returned (.int .i64 (missN a b)) ∧ w = w' := by
 have ha := askN_lt a
 have hb := askN_lt b
 have hc := clN_lt ⟨askN a, ha⟩
 simp only at hc
 have H : Hid (bits .andNot .i64 (askN b : Int) (clN (askN a) : Int) = (missN a b : Int)) := hid (i64_andNot_nat _ _ (by omega) (by omega))
 have CA := hid (fun l => lasks_any l w hK)
 have CC : Hid (Calls Tryz.prog 37 #[.int .i64 (askN a)] w fun e w' => e = .returned (.int .i64 (clN (askN a))) ∧ w = w') := hid (by have h := lclosed_any (askN a) w; rwa [clI_ask] at h)
 clear hK hc ha hb
 go_enter Tryz.func92, Tryz.ntmps92
 go_wp2_with (first
  | (go_at_call 38; refine (CA.out _).mono ?_; rintro e w' ⟨rfl, rfl⟩)
  | (go_at_call 37; refine (CC.out).mono ?_; rintro e w' ⟨rfl, rfl⟩))
 go_ret
 exact ⟨lret_i H.out, rfl⟩
theorem limp_any (a b : Int) (w : World) (hK : Kinds w) : Calls Tryz.prog 83 #[.int .i64 a, .int .i64 b] w fun e w' => e = .returned (.bool (impB a b)) ∧ w = w' := by
 have CM := hid (lmiss_any a b w hK)
 have H : Hid (impB a b = (isLv a && (isLv b && decide (missN a b = 0)))) := hid rfl
 have HE : Hid ((((missN a b : Nat) : Int) == 0) = decide (missN a b = 0)) := hid (by rw [Bool.eq_iff_iff, beq_iff_eq, decide_eq_true_eq]; omega)
 rw [H.out]
 clear hK H
 generalize decide (missN a b = 0) = B at *
 generalize ((missN a b : Nat) : Int) = m at *
 cases ha : isLv a
 ·have C := hid (fun wx => lis_no ha wx)
  clear ha CM HE
  go_enter Tryz.func83, Tryz.ntmps83
  go_wp2_with (go_at_call 76; refine (C.out _).mono ?_; rintro e w' ⟨rfl, rfl⟩)
  go_ret
  exact ⟨rfl, rfl⟩
 ·have C := hid (fun wx => lis_yes ha wx)
  cases hb : isLv b
  ·have D := hid (fun wx => lis_no hb wx)
   clear ha hb CM HE
   go_enter Tryz.func83, Tryz.ntmps83
   go_wp2_with fail
   refine (C.out _).mono ?_
   rintro e w' ⟨rfl, rfl⟩
   go_wp2_with fail
   refine (D.out _).mono ?_
   rintro e w' ⟨rfl, rfl⟩
   go_wp2_with fail
   go_ret
   exact ⟨rfl, rfl⟩
  ·have D := hid (fun wx => lis_yes hb wx)
   clear ha hb
   go_enter Tryz.func83, Tryz.ntmps83
   go_wp2_with fail
   refine (C.out _).mono ?_
   rintro e w' ⟨rfl, rfl⟩
   go_wp2_with fail
   refine (D.out _).mono ?_
   rintro e w' ⟨rfl, rfl⟩
   go_wp2_with fail
   refine (CM.out).mono ?_
   rintro e w' ⟨rfl, rfl⟩
   go_wp2_with fail
   go_ret
   exact ⟨lret_b HE.out, rfl⟩
def rowB (r : Nat → Bool) : Array Value := ((List.range 12).map fun i => Value.bool (r i)).toArray
theorem rowB_size (r : Nat → Bool) : (rowB r).size = 12 := by simp [rowB]
theorem rowB_at (r : Nat → Bool) {i : Nat} (hi : i < 12) : (rowB r)[i]? = some (.bool (r i)) := by simp [rowB, hi]
def rSet (r : Nat → Bool) (a : Nat) (v : Bool) : Nat → Bool := fun i => if i = a then v else r i
theorem rowB_set (r : Nat → Bool) (a : Nat) (v : Bool) : (rowB r).setIfInBounds a (.bool v) = rowB (rSet r a v) := by
 apply Array.ext_getElem?
 intro i
 by_cases hi : i < 12
 ·rw [rowB_at _ hi, Array.getElem?_setIfInBounds]
  unfold rSet
  by_cases e : a = i
  ·subst e; simp [rowB_size, hi]
  ·rw [if_neg e, rowB_at r hi, if_neg (fun h => e h.symm)]
 ·rw [Array.getElem?_eq_none (by rw [Array.size_setIfInBounds, rowB_size]; omega), Array.getElem?_eq_none (by rw [rowB_size]; omega)]
theorem rowB_congr {r s : Nat → Bool} (h : ∀ i, i < 12 → r i = s i) : rowB r = rowB s := by
 apply Array.ext_getElem?
 intro i
 by_cases hi : i < 12
 ·rw [rowB_at _ hi, rowB_at _ hi, h i hi]
 ·rw [Array.getElem?_eq_none (by rw [rowB_size]; omega), Array.getElem?_eq_none (by rw [rowB_size]; omega)]
def noB : Nat → Bool := fun _ => false
theorem rowB_none : rowB noB = #[.bool false, .bool false, .bool false, .bool false, .bool false, .bool false, .bool false, .bool false, .bool false, .bool false, .bool false, .bool false] := rfl
def BRow (w : World) (g : Nat) (r : Nat → Bool) : Prop := w.heap[g]? = some (.cells (rowB r) 33 (0, 0))
theorem BRow.cell {w : World} {g : Nat} {r : Nat → Bool} (h : BRow w g r) {i : Nat} (hi : i < 12) : w.cell? ⟨g, i, none⟩ = some (.bool (r i)) := by rw [cell_of_row w g i _ _ _ h, rowB_at r hi]
theorem BRow.free {w : World} {g : Nat} {r : Nat → Bool} (h : BRow w g r) (i : Nat) : w.frozen? ⟨g, i, none⟩ = false := frozen_of_row w g i _ _ h
theorem BRow.lt {w : World} {g : Nat} {r : Nat → Bool} (h : BRow w g r) : g < w.heap.size := by
 by_cases h0 : g < w.heap.size
 ·exact h0
 ·unfold BRow at h; rw [Array.getElem?_eq_none (Nat.le_of_not_lt h0)] at h; cases h
theorem BRow.below {w w' : World} {g B : Nat} {r : Nat → Bool} (h : BRow w g r) (hb : Below B w w') (hB : g < B) : BRow w' g r := by unfold BRow at *; rw [hb.block g hB, h]
theorem BRow.store {w : World} {g : Nat} {r : Nat → Bool} (h : BRow w g r) (a : Nat) (v : Bool) : BRow (w.setCell ⟨g, a, none⟩ (.bool v)) g (rSet r a v) := by
 unfold BRow at *
 rw [heap_setCell_same w g a _ _ _ h, rowB_set]
theorem BRow.other {w : World} {g : Nat} {r : Nat → Bool} (h : BRow w g r) {k : Addr} (hk : g ≠ k.block) (v : Value) : BRow (w.setCell k v) g r := by unfold BRow at *; rw [heap_setCell_other w k g v hk, h]
theorem BRow.alloc {w : World} {g : Nat} {r : Nat → Bool} (h : BRow w g r) (o : Obj) : BRow (w.alloc o) g r := by
 have hl := BRow.lt h
 unfold BRow at *; rw [Below.heap_alloc w o g hl, h]
theorem BRow.made (w : World) (r : Nat → Bool) {cs : Array Value} {g : Nat} (hg : g = w.heap.size) (hc : cs = rowB r) : BRow (w.alloc (.cells cs 33)) g r := by subst hg hc; exact heap_alloc_new w _
theorem BRow.kept {w w' : World} {g : Nat} {r : Nat → Bool} {row : Option Nat} (h : BRow w g r) (hg : w.grownBy w' row) (hne : some g ≠ row) : BRow w' g r := by
 have hl := BRow.lt h
 have := hg.block g hl hne
 unfold BRow at *
 rw [this, h]
theorem infoRow : (Tryz.prog.info? 33).map (·.size) = some 12 := by kernel_rfl
theorem infoRow' (r : Nat → Bool) : (Tryz.prog.info? 33).map (·.size) = some (rowB r).size := by rw [rowB_size]; exact infoRow
theorem rowB_one (r : Nat → Bool) : (rowB r).all (·.oneCell') = true := by
 rw [Array.all_eq_true_iff_forall_mem]
 intro v hv
 have : v ∈ (rowB r).toList := by simpa using hv
 simp only [rowB, List.toList_toArray, List.mem_map] at this
 obtain ⟨i, _, rfl⟩ := this
 rfl
theorem wpList_load_rowB {ops : Array Oper} {rest : List Oper} {o : Oper} {a : Act} {w : World} {Q : Exit → Act → World → Prop} {g : Nat} {r : Nat → Bool} (h : BRow w g r) (hgd : o.guard = none) (x : Operand) (ho : o.op = .load 33 x)
  (hx : a.eval x = .pointer (some ⟨g, 0, none⟩)) (hn : wpList Tryz.prog ops Q rest (a.put o.dst (.agg (rowB r))) w) : wpList Tryz.prog ops Q (o :: rest) a w :=
 wpList_load_row hgd 33 x ho g hx _ (rowB r) _ _ h Tryz.underlying33 rfl (infoRow' _) hn
theorem wpList_store_rowB {ops : Array Oper} {rest : List Oper} {o : Oper} {a : Act} {w : World} {Q : Exit → Act → World → Prop} {g : Nat} {s : Nat → Bool} (h : BRow w g s) (r : Nat → Bool) (hgd : o.guard = none) (x y : Operand) (ho : o.op = .store 33 x y)
  (hx : a.eval x = .pointer (some ⟨g, 0, none⟩)) (hy : a.eval y = .agg (rowB r)) (hn : wpList Tryz.prog ops Q rest (a.put o.dst undef) (w.setRow g (rowB r))) : wpList Tryz.prog ops Q (o :: rest) a w :=
 wpList_store_row hgd 33 x y ho g (rowB r) hx hy _ _ h (infoRow' _) (by rw [rowB_size, rowB_size]) (rowB_one _) hn
theorem results_rowB {fn : Func} {p : Tmp} (h : fn.results = #[.cell p 33]) (tmps : Array Value) (w : World) (g : Nat) (r : Nat → Bool)
  (hp : tmps.getD p undef = .pointer (some ⟨g, 0, none⟩)) (hg : BRow w g r) : (results fn tmps).run Tryz.prog w = .ok (.agg (rowB r)) w :=
 results_cell_row h tmps w g _ (rowB r) _ _ hp hg Tryz.underlying33 rfl (infoRow' _)
theorem BRow.setRow {w : World} {g : Nat} {r : Nat → Bool} (h : BRow w g r) (s : Nat → Bool) : BRow (w.setRow g (rowB s)) g s := setRow_heap w g _ _ _ _ h
theorem infoBool : (Tryz.prog.info? 4).map (·.size) = some 1 := by kernel_rfl
end

section
open Go.RowKit
def blw (xs : List Int) : Nat → Bool := fun b => xs.any fun a => impB a (b : Int)
def blwTo (r : Nat → Bool) (a : Int) (j : Nat) : Nat → Bool := fun b => if b < j then r b || impB a (b : Int) else r b
theorem blwTo_at (r : Nat → Bool) (a : Int) (j : Nat) : blwTo r a j j = r j := if_neg (by omega)
theorem blwTo_step (r : Nat → Bool) (a : Int) (j : Nat) : rSet (blwTo r a j) j (r j || impB a (j : Int)) = blwTo r a (j + 1) := by
 funext b
 unfold rSet blwTo
 by_cases h : b = j
 ·subst h; simp
 ·rw [if_neg h]
  by_cases h2 : b < j
  ·rw [if_pos h2, if_pos (by omega)]
  ·rw [if_neg h2, if_neg (by omega)]
theorem blw_step (xs : List Int) (k : Nat) (hk : k < xs.length) : rowB (blwTo (blw (xs.take k)) xs[k] 12) = rowB (blw (xs.take (k + 1))) := by
 apply rowB_congr
 intro i hi
 unfold blwTo
 rw [if_pos hi]
 unfold blw
 rw [List.take_succ_eq_append_getElem hk, List.any_append]; simp
theorem BRow.congr {w : World} {g : Nat} {r s : Nat → Bool} (h : BRow w g r) (e : rowB r = rowB s) : BRow w g s := by unfold BRow at *; rw [h, e]
theorem tbelow_any (v : Value) (xs : List Int) (w : World) (hK : Kinds w) (hI : Ints w v xs) : Calls Tryz.prog 41 #[v] w fun e w' => e = .returned (.agg (rowB (blw xs))) ∧ Below w.heap.size w w' := by
 obtain ⟨ao, cap, rfl, hlen⟩ := hI.form
 have HK := hid (fun wx (hb : Below w.heap.size w wx) => hK.below hb)
 have HI := hid (fun wx (hb : Below w.heap.size w wx) => hI.below hb)
 clear hK hI
 go_enter Tryz.func41, Tryz.ntmps41
 go_wp2_with fail
 go_loopw [9] (fun i wr => ∃ k : Nat, k ≤ xs.length ∧ i = .int .i64 k ∧ BRow wr (w.heap.size + 1) (blw (xs.take k)) ∧ BRow wr w.heap.size noB ∧ Below w.heap.size w wr) (fun i _ => xs.length - (intOf i).toNat)
 case atStart =>
  refine ⟨0, by omega, rfl, ?_, ?_, ?_⟩
  ·exact BRow.made _ _ (by simp) (rowB_none.symm.trans (rowB_congr fun i _ => rfl))
  ·exact (BRow.made w noB rfl rowB_none.symm).alloc _
  ·exact ((Below.refl w.heap.size w).alloc (Nat.le_refl _) _).alloc (by simp) _
 case round =>
  obtain ⟨k, hk, rfl, h1, h0, hb⟩ := hrel
  by_cases hlt : k < xs.length
  ·have hki : (k : Int) < (xs.length : Int) := by omega
   obtain ⟨g, o, hao, hc⟩ := (HI.out _ hb).at hlt
   cases hao
   have HN := hid (blw_step xs k hlt)
   generalize xs[k] = a at *
   generalize blw (xs.take k) = r at *
   go_wp2_with fail
   go_loopw [13] (fun i wx => ∃ j : Nat, j ≤ 12 ∧ i = .int .i64 j ∧ BRow wx (w.heap.size + 1) (blwTo r a j) ∧ BRow wx w.heap.size noB ∧ Below w.heap.size w wx) (fun i _ => 12 - (intOf i).toNat)
   case atStart => exact ⟨0, by omega, rfl, h1.congr (rowB_congr fun i _ => by unfold blwTo; rw [if_neg (by omega)]), h0, hb⟩
   case round =>
    clear h1 h0 hb hc
    obtain ⟨j, hj, rfl, h1, h0, hb⟩ := hrel
    by_cases hltj : j < 12
    ·have hkj : (j : Int) < 12 := by omega
     have hcj := h1.cell hltj
     have hfj := h1.free j
     rw [blwTo_at] at hcj
     have HS := hid (blwTo_step r a j)
     have HST := hid (fun v => h1.store j v)
     have H0 := hid (fun v => h0.other (k := ⟨w.heap.size + 1, j, none⟩) (by simp) v)
     have HB := hid (fun v => hb.setCell (p := ⟨w.heap.size + 1, j, none⟩) (by simp) v)
     have CI := hid (limp_any a (j : Int) wr (HK.out _ hb))
     clear h1 h0 hb
     generalize impB a (j : Int) = m at *
     cases hr : r j
     ·rw [hr] at hcj HS
      clear hr
      go_wp2_with (go_at_call 83; refine (CI.out).mono ?_; rintro e w' ⟨rfl, rfl⟩)
      go_roundw
      case rel => exact ⟨j + 1, by omega, by go_num, HS.out ▸ HST.out _, H0.out _, HB.out _⟩
      case measure => simp [intOf]; omega
     ·rw [hr] at hcj HS
      clear hr
      go_wp2_with fail
      go_roundw
      case rel => exact ⟨j + 1, by omega, by go_num, HS.out ▸ HST.out _, H0.out _, HB.out _⟩
      case measure => simp [intOf]; omega
    ·have hjn : j = 12 := by omega
     subst hjn
     have h2 := h1.congr HN.out
     go_wp2_with fail
     go_roundw
     case rel => exact ⟨k + 1, by omega, by go_num, h2, h0, hb⟩
     case measure => simp [intOf]; omega
  ·have hkn : k = xs.length := by omega
   subst hkn
   rw [List.take_length] at h1
   go_wp2_with (first
    | (with_reducible refine wpList_load_rowB h1 rfl _ rfl rfl ?_)
    | (with_reducible refine wpList_store_rowB h0 (blw xs) rfl _ _ rfl rfl rfl ?_))
   have h3 := h0.setRow (blw xs)
   exact bodyPost_ret (results_rowB rfl _ _ _ _ rfl h3) rfl ⟨rfl, below_setRow hb (by omega) _⟩
end

section
open Go.RowKit
def abvTo (r : Nat → Bool) (b : Int) (k : Nat) : Bool := (List.range k).any fun a => r a && (decide ((a : Int) ≠ b) && impB (a : Int) b)
def abv (r : Nat → Bool) (b : Int) : Bool := abvTo r b 12
theorem abvTo_succ (r : Nat → Bool) (b : Int) (k : Nat) : abvTo r b (k + 1) = (abvTo r b k || (r k && (decide ((k : Int) ≠ b) && impB (k : Int) b))) := by
 unfold abvTo; rw [List.range_succ, List.any_append]; simp
theorem abvTo_hit {r : Nat → Bool} {b : Int} {k : Nat} (hk : k < 12) (h : (r k && (decide ((k : Int) ≠ b) && impB (k : Int) b)) = true) : abv r b = true := List.any_eq_true.2 ⟨k, List.mem_range.2 hk, h⟩
theorem above_any (r : Nat → Bool) (b : Int) (w : World) (hK : Kinds w) : Calls Tryz.prog 90 #[.agg (rowB r), .int .i64 b] w fun e w' => e = .returned (.bool (abv r b)) ∧ Below w.heap.size w w' := by
 have HK := hid (fun wx (hb : Below w.heap.size w wx) => hK.below hb)
 clear hK
 go_enter Tryz.func90, Tryz.ntmps90
 go_wp2_with fail
 go_loopw [6] (fun i wr => ∃ k : Nat, k ≤ 12 ∧ i = .int .i64 k ∧ abvTo r b k = false ∧ BRow wr w.heap.size r ∧ Below w.heap.size w wr) (fun i _ => 12 - (intOf i).toNat)
 case atStart => exact ⟨0, by omega, rfl, rfl, BRow.made w r rfl rfl, (Below.refl w.heap.size w).alloc (Nat.le_refl _) _⟩
 case round =>
  obtain ⟨k, hk, rfl, hno, h0, hb⟩ := hrel
  have HNO := hid hno
  clear hno
  by_cases hlt : k < 12
  ·have hki : (k : Int) < 12 := by omega
   have hc := h0.cell hlt
   have HS := hid (abvTo_succ r b k)
   have HH := hid (fun h => abvTo_hit (r := r) (b := b) hlt h)
   have CI := hid (limp_any (k : Int) b wr (HK.out _ hb))
   rw [HNO.out] at HS
   cases hr : r k
   ·rw [hr] at hc HS
    clear hr HH CI
    have HM : Hid (abvTo r b (k + 1) = false) := hid (by rw [HS.out]; rfl)
    go_wp2_with fail
    go_roundw
    case rel => exact ⟨k + 1, by omega, by go_num, HM.out, h0, hb⟩
    case measure => simp [intOf]; omega
   ·rw [hr] at hc HS HH
    clear hr
    by_cases hkb : (k : Int) = b
    ·have HM : Hid (abvTo r b (k + 1) = false) := hid (by rw [HS.out, decide_eq_false (by simpa using hkb)]; rfl)
     have hkb' : ((k : Int) == b) = true := by rw [beq_iff_eq]; exact hkb
     clear hkb HH CI HS
     go_wp2_with fail
     ·go_roundw
      case rel => exact ⟨k + 1, by omega, by go_num, HM.out, h0, hb⟩
      case measure => simp [intOf]; omega
     ·exact absurd (beq_iff_eq.1 hkb') (by assumption)
    ·rw [decide_eq_true (show (k : Int) ≠ b from hkb)] at HS HH
     cases hm : impB (k : Int) b
     ·rw [hm] at CI HS
      have HM : Hid (abvTo r b (k + 1) = false) := hid (by rw [HS.out]; rfl)
      clear hm HH HS
      go_wp2_with (go_at_call 83; refine (CI.out).mono ?_; rintro e w' ⟨rfl, rfl⟩)
      go_roundw
      case rel => exact ⟨k + 1, by omega, by go_num, HM.out, h0, hb⟩
      case measure => simp [intOf]; omega
     ·rw [hm] at CI HH
      have HM : Hid (true = abv r b) := hid (HH.out rfl).symm
      clear hm HH HS
      go_wp2_with (go_at_call 83; refine (CI.out).mono ?_; rintro e w' ⟨rfl, rfl⟩)
      go_ret
      exact ⟨lret_b HM.out, hb⟩
  ·have hkn : k = 12 := by omega
   subst hkn
   have HM : Hid (false = abv r b) := hid HNO.out.symm
   go_wp2_with fail
   go_ret
   exact ⟨lret_b HM.out, hb⟩
theorem wpList_load_rowB_g {ops : Array Oper} {rest : List Oper} {o : Oper} {a : Act} {w : World} {Q : Exit → Act → World → Prop} {g : Nat} {r : Nat → Bool} (h : BRow w g r) (x : Operand) (ho : o.op = .load 33 x)
  (hw : Region.wanted o (yielded ops a.tmps) = true) (hx : a.eval x = .pointer (some ⟨g, 0, none⟩)) (hn : wpList Tryz.prog ops Q rest (a.put o.dst (.agg (rowB r))) w) : wpList Tryz.prog ops Q (o :: rest) a w :=
 wpList_step fun K hK => by rw [if_pos hw]; exact wp_load_row 33 x ho g hx _ (rowB r) _ _ h Tryz.underlying33 rfl (infoRow' _) (hK _ _ hn)
def clsTo (r : Nat → Bool) (k : Nat) : Bool := (List.range k).all fun b => !(!r b && abv r (b : Int))
def cls (r : Nat → Bool) : Bool := clsTo r 12
theorem own_base0 {w : World} {base base' : Nat} {v : Value} {e : TypeId} {size n : Nat} {xs : List Value} (h : w.ownsRow base e size v n xs) (hb : base' ≤ base) : w.ownsRow base' e size v n xs := by
 obtain ⟨h1, h2⟩ := h
 refine ⟨h1, ?_⟩
 rcases h2 with h2 | ⟨g, cap, cur, e1, e2, r⟩
 ·exact .inl h2
 ·exact .inr ⟨g, cap, cur, e1, Nat.le_trans hb e2, r⟩
def strTo (r : Nat → Bool) (k : Nat) : List Nat := (List.range k).filter fun b => r b && !abv r (b : Int)
theorem below_app0 {B B' : Nat} {W wr w1 : World} {o : Obj} {e : TypeId} {n size : Nat} {v : Value} {xs : List Value} (hb : Below B W wr) (hB : B ≤ W.heap.size) (hown : wr.ownsRow B' e size v n xs) (hBB : B ≤ B')
  (hg : (wr.alloc o).grownBy w1 v.ownBlock) : Below B W w1 :=
 (hb.alloc (Nat.le_trans hB hb.size) o).grown hg (by have := hb.size; simp; omega) fun k hk => Nat.le_trans hBB (hown.lt k hk).1
def natV (l : List Nat) : List Value := l.map fun i : Nat => Value.int .i64 (i : Int)
theorem strTo_succ (r : Nat → Bool) (k : Nat) : strTo r (k + 1) = strTo r k ++ (if r k && !abv r (k : Int) then [k] else []) := by
 unfold strTo
 rw [List.range_succ, List.filter_append]
 congr 1
 cases h : r k && !abv r (k : Int) <;> simp [h]
theorem strTo_len (r : Nat → Bool) (k : Nat) : (strTo r k).length ≤ k := by
 unfold strTo
 have := List.length_filter_le (fun b => r b && !abv r (b : Int)) (List.range k)
 simpa using this
theorem natV_snoc (l : List Nat) (k : Nat) : natV (l ++ [k]) = natV l ++ [.int .i64 (k : Int)] := by simp [natV]
theorem infoLv : (Tryz.prog.info? 60).map (fun i => (i.zero, i.size, i.bytes)) = some (some (.int .i64 0), 1, 8) := by kernel_rfl
theorem strongest_any (r : Nat → Bool) (w : World) (hK : Kinds w) : Calls Tryz.prog 46 #[.agg (rowB r)] w fun e w' => ∃ v, e = .returned v ∧ w'.ownsRow w.heap.size 60 1 v (strTo r 12).length (natV (strTo r 12)) ∧ Below w.heap.size w w' := by
 obtain ⟨i0, hi, hz0, hz1, hz2⟩ := info_parts infoLv
 have HK := hid (fun wx (hb : Below w.heap.size w wx) => hK.below hb)
 clear hK
 go_enter Tryz.func46, Tryz.ntmps46
 go_wp2_with fail
 go_loopw [3, 5] (fun v i wr => ∃ k : Nat, k ≤ 12 ∧ i = .int .i64 k ∧ wr.ownsRow (w.heap.size + 1) 60 1 v (strTo r k).length (natV (strTo r k)) ∧ BRow wr w.heap.size r ∧ Below w.heap.size w wr) (fun _ i _ => 12 - (intOf i).toNat)
 case atStart => exact ⟨0, by omega, rfl, World.ownsRow_nil _ _ _ _, BRow.made w r rfl rfl, (Below.refl w.heap.size w).alloc (Nat.le_refl _) _⟩
 case round =>
  obtain ⟨k, hk, rfl, hown, h0, hb⟩ := hrel
  have hll := strTo_len r k
  by_cases hlt : k < 12
  ·have hki : (k : Int) < 12 := by omega
   have hc := h0.cell hlt
   have HS := hid (strTo_succ r k)
   have CI := hid (above_any r (k : Int) wr (HK.out _ hb))
   have H2 := hid (fun wx (hx : Below wr.heap.size wr wx) => h0.below hx h0.lt)
   have HB := hid (fun wx (hx : Below wr.heap.size wr wx) => hb.trans (hx.mono hb.size))
   have HO := hid (fun wx (hx : Below wr.heap.size wr wx) => owns_below hown hx)
   have hsz := h0.lt
   cases hr : r k
   ·rw [hr] at hc HS
    have HM : Hid (strTo r (k + 1) = strTo r k) := hid (by rw [HS.out]; simp)
    clear hr HS CI
    go_wp2_with fail
    go_roundw
    case rel => exact ⟨k + 1, by omega, by go_num, by rw [HM.out]; exact hown, h0, hb⟩
    case measure => simp [intOf]; omega
   ·rw [hr] at hc HS
    clear hr
    cases hm : abv r (k : Int)
    ·rw [hm] at CI HS
     have HM : Hid (strTo r (k + 1) = strTo r k ++ [k]) := hid (by rw [HS.out]; simp)
     clear hm HS
     go_wp2_with (with_reducible refine wpList_load_rowB_g h0 _ rfl (by kernel_rfl) rfl ?_)
     refine (CI.out).mono ?_
     rintro e w6 ⟨rfl, hb6⟩
     have h6 := H2.out _ hb6
     have hbw := HB.out _ hb6
     have hown6 := HO.out _ hb6
     have hs6 := h6.lt
     clear CI hown h0 hb hb6 hsz H2 HB HO
     go_wp2_with (at_builtin; refine wpList_append_own _ rfl _ _ 24 rfl (w.heap.size + 1) 60 i0 (.int .i64 0) 1 8 Tryz.underlying24 hi hz0 hz1 hz2 rfl (by decide) _ _ _ rfl (hown6.alloc _) ⟨_, 0, none⟩ 1 1 [.int .i64 (k : Int)] rfl rfl ?c1 ?c2 ?c3 ?c4 ?c5 ?_)
     case c1 => exact cell_one_new _ _ _
     case c2 => intro u hu; simp at hu; subst hu; rfl
     case c3 => unfold maxLen; omega
     case c4 => omega
     case c5 => simp; omega
     ·intro v' w7 hown' hgrow _
      have hb' := below_app0 hbw (Nat.le_refl _) hown6 (by omega) hgrow
      have h7 := (h6.alloc _).kept hgrow (fun e => by have := (hown6.lt _ e.symm).1; omega)
      clear hown6 h6 hbw hgrow
      go_wp2_with fail
      go_roundw
      case rel =>
       refine ⟨k + 1, by omega, by go_num, ?_, h7, hb'⟩
       rw [HM.out, natV_snoc, List.length_append]
       exact hown'
      case measure => simp [intOf]; omega
    ·rw [hm] at CI HS
     have HM : Hid (strTo r (k + 1) = strTo r k) := hid (by rw [HS.out]; simp)
     clear hm HS
     go_wp2_with (first
      | (with_reducible refine wpList_load_rowB_g h0 _ rfl (by kernel_rfl) rfl ?_)
      | (go_at_call 90; refine (CI.out).mono ?_; rintro e w' ⟨rfl, hbb⟩))
     go_roundw
     case rel => exact ⟨k + 1, by omega, by go_num, by rw [HM.out]; exact HO.out _ hbb, H2.out _ hbb, HB.out _ hbb⟩
     case measure => simp [intOf]; omega
  ·have hkn : k = 12 := by omega
   subst hkn
   go_wp2_with fail
   go_ret
   exact ⟨_, rfl, own_base0 hown (by omega), hb⟩
end

section
open Go.RowKit
def bydTo (r : Nat → Bool) (b : Int) (k : Nat) : Bool := (List.range k).any fun a => !r a && (decide (b ≠ (a : Int)) && impB b (a : Int))
def byd (r : Nat → Bool) (b : Int) : Bool := bydTo r b 12
theorem bydTo_succ (r : Nat → Bool) (b : Int) (k : Nat) : bydTo r b (k + 1) = (bydTo r b k || (!r k && (decide (b ≠ (k : Int)) && impB b (k : Int)))) := by
 unfold bydTo; rw [List.range_succ, List.any_append]; simp
theorem bydTo_hit {r : Nat → Bool} {b : Int} {k : Nat} (hk : k < 12) (h : (!r k && (decide (b ≠ (k : Int)) && impB b (k : Int))) = true) : byd r b = true := List.any_eq_true.2 ⟨k, List.mem_range.2 hk, h⟩
theorem lbeyond_any (r : Nat → Bool) (b : Int) (w : World) (hK : Kinds w) : Calls Tryz.prog 91 #[.agg (rowB r), .int .i64 b] w fun e w' => e = .returned (.bool (byd r b)) ∧ Below w.heap.size w w' := by
 have HK := hid (fun wx (hb : Below w.heap.size w wx) => hK.below hb)
 clear hK
 go_enter Tryz.func91, Tryz.ntmps91
 go_wp2_with fail
 go_loopw [6] (fun i wr => ∃ k : Nat, k ≤ 12 ∧ i = .int .i64 k ∧ bydTo r b k = false ∧ BRow wr w.heap.size r ∧ Below w.heap.size w wr) (fun i _ => 12 - (intOf i).toNat)
 case atStart => exact ⟨0, by omega, rfl, rfl, BRow.made w r rfl rfl, (Below.refl w.heap.size w).alloc (Nat.le_refl _) _⟩
 case round =>
  obtain ⟨k, hk, rfl, hno, h0, hb⟩ := hrel
  have HNO := hid hno
  clear hno
  by_cases hlt : k < 12
  ·have hki : (k : Int) < 12 := by omega
   have hc := h0.cell hlt
   have HS := hid (bydTo_succ r b k)
   have HH := hid (fun h => bydTo_hit (r := r) (b := b) hlt h)
   have CI := hid (limp_any b (k : Int) wr (HK.out _ hb))
   rw [HNO.out] at HS
   cases hr : r k
   rotate_left
   ·rw [hr] at hc HS
    clear hr HH CI
    have HM : Hid (bydTo r b (k + 1) = false) := hid (by rw [HS.out]; rfl)
    go_wp2_with fail
    go_roundw
    case rel => exact ⟨k + 1, by omega, by go_num, HM.out, h0, hb⟩
    case measure => simp [intOf]; omega
   ·rw [hr] at hc HS HH
    clear hr
    by_cases hkb : b = (k : Int)
    ·have HM : Hid (bydTo r b (k + 1) = false) := hid (by rw [HS.out, decide_eq_false (by simpa using hkb)]; rfl)
     clear HH CI HS HNO
     subst hkb
     go_wp2_with fail
     go_roundw
     case rel => exact ⟨k + 1, by omega, by go_num, HM.out, h0, hb⟩
     case measure => simp [intOf]; omega
    ·rw [decide_eq_true (show b ≠ (k : Int) from hkb)] at HS HH
     cases hm : impB b (k : Int)
     ·rw [hm] at CI HS
      have HM : Hid (bydTo r b (k + 1) = false) := hid (by rw [HS.out]; rfl)
      clear hm HH HS
      go_wp2_with (go_at_call 83; refine (CI.out).mono ?_; rintro e w' ⟨rfl, rfl⟩)
      go_roundw
      case rel => exact ⟨k + 1, by omega, by go_num, HM.out, h0, hb⟩
      case measure => simp [intOf]; omega
     ·rw [hm] at CI HH
      have HM : Hid (true = byd r b) := hid (HH.out rfl).symm
      clear hm HH HS
      go_wp2_with (go_at_call 83; refine (CI.out).mono ?_; rintro e w' ⟨rfl, rfl⟩)
      go_ret
      exact ⟨lret_b HM.out, hb⟩
  ·have hkn : k = 12 := by omega
   subst hkn
   have HM : Hid (false = byd r b) := hid HNO.out.symm
   go_wp2_with fail
   go_ret
   exact ⟨lret_b HM.out, hb⟩
def wkTo (r : Nat → Bool) (k : Nat) : List Nat := (List.range k).filter fun b => !r b && !byd r (b : Int)
theorem wkTo_succ (r : Nat → Bool) (k : Nat) : wkTo r (k + 1) = wkTo r k ++ (if !r k && !byd r (k : Int) then [k] else []) := by
 unfold wkTo
 rw [List.range_succ, List.filter_append]
 congr 1
 cases h : !r k && !byd r (k : Int) <;> simp [h]
theorem wkTo_len (r : Nat → Bool) (k : Nat) : (wkTo r k).length ≤ k := by
 unfold wkTo
 have := List.length_filter_le (fun b => !r b && !byd r (b : Int)) (List.range k)
 simpa using this
theorem lweakest_any (r : Nat → Bool) (w : World) (hK : Kinds w) : Calls Tryz.prog 47 #[.agg (rowB r)] w fun e w' => ∃ v, e = .returned v ∧ w'.ownsRow w.heap.size 60 1 v (wkTo r 12).length (natV (wkTo r 12)) ∧ Below w.heap.size w w' := by
 obtain ⟨i0, hi, hz0, hz1, hz2⟩ := info_parts infoLv
 have HK := hid (fun wx (hb : Below w.heap.size w wx) => hK.below hb)
 clear hK
 go_enter Tryz.func47, Tryz.ntmps47
 go_wp2_with fail
 go_loopw [3, 5] (fun v i wr => ∃ k : Nat, k ≤ 12 ∧ i = .int .i64 k ∧ wr.ownsRow (w.heap.size + 1) 60 1 v (wkTo r k).length (natV (wkTo r k)) ∧ BRow wr w.heap.size r ∧ Below w.heap.size w wr) (fun _ i _ => 12 - (intOf i).toNat)
 case atStart => exact ⟨0, by omega, rfl, World.ownsRow_nil _ _ _ _, BRow.made w r rfl rfl, (Below.refl w.heap.size w).alloc (Nat.le_refl _) _⟩
 case round =>
  obtain ⟨k, hk, rfl, hown, h0, hb⟩ := hrel
  have hll := wkTo_len r k
  by_cases hlt : k < 12
  ·have hki : (k : Int) < 12 := by omega
   have hc := h0.cell hlt
   have HS := hid (wkTo_succ r k)
   have CI := hid (lbeyond_any r (k : Int) wr (HK.out _ hb))
   have H2 := hid (fun wx (hx : Below wr.heap.size wr wx) => h0.below hx h0.lt)
   have HB := hid (fun wx (hx : Below wr.heap.size wr wx) => hb.trans (hx.mono hb.size))
   have HO := hid (fun wx (hx : Below wr.heap.size wr wx) => owns_below hown hx)
   have hsz := h0.lt
   cases hr : r k
   rotate_left
   ·rw [hr] at hc HS
    have HM : Hid (wkTo r (k + 1) = wkTo r k) := hid (by rw [HS.out]; simp)
    clear hr HS CI
    go_wp2_with fail
    go_roundw
    case rel => exact ⟨k + 1, by omega, by go_num, by rw [HM.out]; exact hown, h0, hb⟩
    case measure => simp [intOf]; omega
   ·rw [hr] at hc HS
    clear hr
    cases hm : byd r (k : Int)
    ·rw [hm] at CI HS
     have HM : Hid (wkTo r (k + 1) = wkTo r k ++ [k]) := hid (by rw [HS.out]; simp)
     clear hm HS
     go_wp2_with (with_reducible refine wpList_load_rowB_g h0 _ rfl (by kernel_rfl) rfl ?_)
     refine (CI.out).mono ?_
     rintro e w6 ⟨rfl, hb6⟩
     have h6 := H2.out _ hb6
     have hbw := HB.out _ hb6
     have hown6 := HO.out _ hb6
     have hs6 := h6.lt
     clear CI hown h0 hb hb6 hsz H2 HB HO
     go_wp2_with (at_builtin; refine wpList_append_own _ rfl _ _ 24 rfl (w.heap.size + 1) 60 i0 (.int .i64 0) 1 8 Tryz.underlying24 hi hz0 hz1 hz2 rfl (by decide) _ _ _ rfl (hown6.alloc _) ⟨_, 0, none⟩ 1 1 [.int .i64 (k : Int)] rfl rfl ?c1 ?c2 ?c3 ?c4 ?c5 ?_)
     case c1 => exact cell_one_new _ _ _
     case c2 => intro u hu; simp at hu; subst hu; rfl
     case c3 => unfold maxLen; omega
     case c4 => omega
     case c5 => simp; omega
     ·intro v' w7 hown' hgrow _
      have hb' := below_app0 hbw (Nat.le_refl _) hown6 (by omega) hgrow
      have h7 := (h6.alloc _).kept hgrow (fun e => by have := (hown6.lt _ e.symm).1; omega)
      clear hown6 h6 hbw hgrow
      go_wp2_with fail
      go_roundw
      case rel =>
       refine ⟨k + 1, by omega, by go_num, ?_, h7, hb'⟩
       rw [HM.out, natV_snoc, List.length_append]
       exact hown'
      case measure => simp [intOf]; omega
    ·rw [hm] at CI HS
     have HM : Hid (wkTo r (k + 1) = wkTo r k) := hid (by rw [HS.out]; simp)
     clear hm HS
     go_wp2_with (first
      | (with_reducible refine wpList_load_rowB_g h0 _ rfl (by kernel_rfl) rfl ?_)
      | (go_at_call 91; refine (CI.out).mono ?_; rintro e w' ⟨rfl, hbb⟩))
     go_roundw
     case rel => exact ⟨k + 1, by omega, by go_num, by rw [HM.out]; exact HO.out _ hbb, H2.out _ hbb, HB.out _ hbb⟩
     case measure => simp [intOf]; omega
  ·have hkn : k = 12 := by omega
   subst hkn
   go_wp2_with fail
   go_ret
   exact ⟨_, rfl, own_base0 hown (by omega), hb⟩
end

section
theorem byteArray_ext {a b : ByteArray} (h : a.data.toList = b.data.toList) : a = b := by
 obtain ⟨⟨a⟩⟩ := a; obtain ⟨⟨b⟩⟩ := b; simp at h; rw [h]
/-! ### Numerals -/
end

section
open Go.RowKit
def hasL (l : List Int) (n : Int) : Bool := l.any fun x => x == n
end

section
open Go.RowKit
def ofTo (l : List Int) : Nat → Nat
 | 0 => 0
 | m + 1 => 2 * ofTo l m + if hasL l (63 - (m : Int)) then 1 else 0
def ofL (l : List Int) : Nat := ofTo l 64
theorem ofTo_lt (l : List Int) : ∀ m, ofTo l m < 2 ^ m
 | 0 => by simp [ofTo]
 | m + 1 => by
  have := ofTo_lt l m
  simp only [ofTo, Nat.pow_succ]
  split <;> omega
theorem testBit_ofTo (l : List Int) : ∀ m i, m ≤ 64 → (ofTo l m).testBit i = (decide (i < m) && hasL l ((64 - m + i : Nat) : Int))
 | 0, i, _ => by simp [ofTo]
 | m + 1, i, hm => by
  have hb : (if hasL l (63 - (m : Int)) = true then 1 else 0) < 2 ^ 1 := by split <;> omega
  show (2 ^ 1 * ofTo l m + (if hasL l (63 - (m : Int)) = true then 1 else 0)).testBit i = _
  rw [Nat.testBit_two_pow_mul_add _ hb]
  by_cases h0 : i = 0
  ·subst h0
   have e : ((64 - (m + 1) + 0 : Nat) : Int) = 63 - (m : Int) := by omega
   rw [e]
   cases hasL l (63 - (m : Int)) <;> simp
  ·rw [if_neg (by omega), testBit_ofTo l m (i - 1) (by omega)]
   have e : 64 - m + (i - 1) = 64 - (m + 1) + i := by omega
   rw [e]
   congr 1
   simp; omega
theorem testBit_ofL (l : List Int) (i : Nat) : (ofL l).testBit i = (decide (i < 64) && hasL l (i : Int)) := by
 unfold ofL
 rw [testBit_ofTo l 64 i (by omega)]; simp
theorem isSet_ofL (l : List Int) : IsSet (ofL l) := by
 rw [isSet_iff]; exact ofTo_lt l 64
def setL (l : List Int) : Nat := l.foldl withS 0
theorem testBit_foldl (l : List Int) : ∀ (s : Nat) (i : Nat), i < 64 → (l.foldl withS s).testBit i = (s.testBit i || hasL l (i : Int)) := by
 induction l with
 | nil => intro s i _; simp [hasL]
 | cons a l ih =>
  intro s i hi
  rw [List.foldl_cons, ih _ i hi, testBit_withS]
  unfold hasL
  rw [List.any_cons, Bool.or_assoc]
  congr 2
  rw [Bool.eq_iff_iff]; simp; omega
theorem isSet_foldl (l : List Int) : ∀ (s : Nat), IsSet s → IsSet (l.foldl withS s) := by
 induction l with
 | nil => intro s h; exact h
 | cons a l ih => intro s h; exact ih _ (isSet_withS h)
theorem isSet_setL (l : List Int) : IsSet (setL l) := isSet_foldl l 0 (by unfold IsSet; omega)
theorem setL_eq (l : List Int) : setL l = ofL l := by
 apply set_ext (isSet_setL l) (isSet_ofL l)
 intro i hi
 rw [testBit_ofL, setL, testBit_foldl l 0 i hi]; simp [hi]
end

section
open Go.RowKit
theorem infoInt : (Tryz.prog.info? 3).map (fun i => (i.zero, i.size, i.bytes)) = some (some (.int .i64 0), 1, 8) := by kernel_rfl
theorem below_app {B : Nat} {W wr w1 : World} {o : Obj} {e : TypeId} {n size : Nat} {v : Value} {xs : List Value} (hb : Below B W wr) (hB : B ≤ W.heap.size) (hown : wr.ownsRow B e size v n xs)
  (hg : (wr.alloc o).grownBy w1 v.ownBlock) : Below B W w1 :=
 (hb.alloc (Nat.le_trans hB hb.size) o).grown hg (by have := hb.size; simp; omega) fun k hk => (hown.lt k hk).1
end

section
open Go.RowKit
def Strs (w : World) (v : Value) (xs : List ByteArray) : Prop := Row w v xs.length 1 (xs.map Value.string)
theorem Strs.below {w w' : World} {v : Value} {xs : List ByteArray} (h : Strs w v xs) (hb : Below w.heap.size w w') : Strs w' v xs := Row.below h hb
theorem Strs.of_owns {w : World} {base : Nat} {e : TypeId} {v : Value} {n : Nat} {xs : List ByteArray} (h : w.ownsRow base e 1 v n (xs.map Value.string)) : Strs w v xs := by
 have hr := Row.of_owns h
 have hn : n = xs.length := by have := h.1; simp at this; omega
 subst hn; exact hr
theorem Strs.form {w : World} {v : Value} {xs : List ByteArray} (h : Strs w v xs) : ∃ ao cap, v = .slice ao xs.length cap ∧ (xs.length ≤ cap ∧ cap ≤ 9223372036854775807) ∧ (ao = none → xs.length = 0 ∧ cap = 0) := by
 obtain ⟨_, ao, cap, rfl, hm, hno, _⟩ := h
 exact ⟨ao, cap, rfl, hm, hno⟩
theorem Strs.at {w : World} {ao : Option Addr} {n cap : Nat} {xs : List ByteArray} (h : Strs w (.slice ao n cap) xs) {k : Nat} (hk : k < xs.length) :
  ∃ b off, ao = some ⟨b, off, none⟩ ∧ w.cell? ⟨b, off + k, none⟩ = some (.string xs[k]) := by
 obtain ⟨_, ao', cap', he, hm, _, hc⟩ := h
 obtain ⟨rfl, _, _⟩ : ao = ao' ∧ n = xs.length ∧ cap = cap' := by simpa using he
 obtain ⟨b, off, rfl, hcell⟩ := hc (by omega)
 refine ⟨b, off, rfl, ?_⟩
 rw [hcell k (by omega)]
 simp [List.getElem?_eq_getElem hk]
theorem infoStr : (Tryz.prog.info? 9).map (fun i => (i.zero, i.size, i.bytes)) = some (some (.string ByteArray.empty), 1, 16) := by kernel_rfl
end

section
open Go.RowKit
theorem bldSize : (Tryz.prog.info? 218).map (·.size) = some 2 := by kernel_rfl
theorem bldLies : liesAt Tryz.prog Tryz.prog.depth 218 (2 / Tryz.prog.cellsOf 218) 0 218 1 = true := by kernel_rfl
theorem infoU8 : (Tryz.prog.info? 5).map (fun i => (i.zero, i.size, i.bytes)) = some (some (.int .u8 0), 1, 1) := by kernel_rfl
def Bld (B b : Nat) (l : List UInt8) (w : World) : Prop := Lib.IsBuilder 218 5 B b (Lib.byteCells l) w ∧ B ≤ w.heap.size
theorem copy_used (b : Nat) (w : World) (h : w.cell? ⟨b, 0, none⟩ = some (.pointer (some ⟨b, 0, none⟩))) :
  Calls Tryz.prog 182 #[.pointer (some ⟨b, 0, none⟩)] w fun e w' => e = .returned (.tuple #[]) ∧ w = w' := by
 obtain ⟨j, hj, _⟩ := Option.map_eq_some_iff.1 bldSize
 have hq := Lib.run_neq_ptr_same (P := Tryz.prog) w ⟨b, 0, none⟩ Tryz.underlying216 hj
 go_enter Tryz.func182, Tryz.ntmps182
 go_wp2
 go_end0
 exact ⟨rfl, rfl⟩
theorem copy_fresh (b : Nat) (w : World) (h : w.cell? ⟨b, 0, none⟩ = some (.pointer none)) (hs : w.shape? b = some (218, 2)) (hf : w.frozen? ⟨b, 0, none⟩ = false) :
  Calls Tryz.prog 182 #[.pointer (some ⟨b, 0, none⟩)] w fun e w' => e = .returned (.tuple #[]) ∧ w' = w.setCell ⟨b, 0, none⟩ (.pointer (some ⟨b, 0, none⟩)) := by
 obtain ⟨j, hj, hjs⟩ := Option.map_eq_some_iff.1 bldSize
 have HTO := hid (Lib.run_to_unsafe (P := Tryz.prog) w ⟨b, 0, none⟩ Tryz.underlying216 Tryz.underlying286 hj (by rw [hjs]; decide) hs (Nat.zero_lt_succ 1))
 have HFROM := hid (Lib.run_from_unsafe (P := Tryz.prog) w ⟨b, 0, none⟩ Tryz.underlying286 Tryz.underlying216 hj hs bldLies)
 clear hjs
 go_enter Tryz.func182, Tryz.ntmps182
 go_wp2
 rw [HTO.out]
 simp only [Result.andThen]
 rw [Oper.upon_value]
 go_wp2
 rw [run_callFunc_extern Tryz.func219 (by kernel_rfl) (by kernel_rfl) (by kernel_rfl) (e := Extern.AbiNoEscape.same) (by kernel_rfl), Lib.run_noEscape]
 simp only [Result.andThen]
 rw [Oper.upon_value]
 go_wp2
 rw [HFROM.out]
 simp only [Result.andThen]
 rw [Oper.upon_value]
 go_wp2
 go_end0
 exact ⟨rfl, rfl⟩
theorem copy_any (B b : Nat) (l : List UInt8) (w : World) (h : Bld B b l w) :
  Calls Tryz.prog 182 #[.pointer (some ⟨b, 0, none⟩)] w fun e w' => e = .returned (.tuple #[]) ∧ Lib.BuilderAt 218 5 B b (.pointer (some ⟨b, 0, none⟩)) (Lib.byteCells l) w' ∧ Below B w w' := by
 rcases h.1 with h | h
 ·refine (copy_fresh b w h.cell0 h.shape h.frozen0).mono ?_
  rintro e w' ⟨rfl, rfl⟩
  exact ⟨rfl, h.used _, (Below.refl B w).setCell (p := ⟨b, 0, none⟩) h.1 _⟩
 ·refine (copy_used b w h.cell0).mono ?_
  rintro e w' ⟨rfl, rfl⟩
  exact ⟨rfl, h, Below.refl B _⟩
theorem own_slice {w : World} {B e n : Nat} {v : Value} {xs : List Value} (h : w.ownsRow B e 1 v n xs) : ∃ ao k cap, v = .slice ao k cap := by
 rcases h.2 with ⟨h, _⟩ | ⟨g, cap, cur, h, _⟩
 ·exact ⟨_, _, _, h⟩
 ·exact ⟨_, _, _, h⟩
theorem strCells_bytes (s : ByteArray) : Lib.strCells s = Lib.byteCells s.data.toList := rfl
theorem write_any (B b : Nat) (l : List UInt8) (s : ByteArray) (w : World) (h : Bld B b l w) (hlen : l.length + s.size ≤ 140737488355328) :
  Calls Tryz.prog 144 #[.pointer (some ⟨b, 0, none⟩), .string s] w fun e w' => e = .returned (.tuple #[.int .i64 s.size, .nilIface]) ∧ Bld B b (l ++ s.data.toList) w' ∧ Below B w w' := by
 obtain ⟨i0, hi, hz0, hz1, hz2⟩ := info_parts infoU8
 have hBw := h.2
 have hll : (Lib.byteCells l).length = l.length := Lib.byteCells_length l
 have C := hid (copy_any B b l w h)
 clear h
 go_enter Tryz.func144, Tryz.ntmps144
 go_wp2_with fail
 refine (C.out).mono ?_
 rintro e w1 ⟨rfl, h1, hb1⟩
 obtain ⟨hB, v, hbk, hown, hne⟩ := h1
 have hsz := hb1.size
 have c0 : w1.cell? ⟨b, 0, none⟩ = some (.pointer (some ⟨b, 0, none⟩)) := by rw [Lib.cell_of_heap hbk]; rfl
 have c1 : w1.cell? ⟨b, 1, none⟩ = some v := by rw [Lib.cell_of_heap hbk]; rfl
 have hlt : b < w1.heap.size := by
  rcases Nat.lt_or_ge b w1.heap.size with h' | h'
  ·exact h'
  ·simp [Array.getElem?_eq_none h'] at hbk
 rw [hll] at hown
 have HBK := hid hbk
 clear hbk hll
 go_wp2_with (at_builtin; refine Lib.wpList_append_own_string _ rfl _ _ 85 9 rfl B 5 i0 Tryz.underlying85 Tryz.underlying9 hi hz0 hz1 hz2 _ _ _ rfl hown s rfl ?c3 ?c4 ?c5 ?_)
 case c3 => unfold maxLen; omega
 case c4 => omega
 case c5 => omega
 intro v' w2 hown' hgrow _
 have hb2 : w2.heap[b]? = some (.cells #[.pointer (some ⟨b, 0, none⟩), v] 218 (0, 0)) := by
  rw [hgrow.block b hlt (fun e => hne e.symm)]
  exact HBK.out
 have d0 : w2.cell? ⟨b, 0, none⟩ = some (.pointer (some ⟨b, 0, none⟩)) := by rw [Lib.cell_of_heap hb2]; rfl
 have d1 : w2.cell? ⟨b, 1, none⟩ = some v := by rw [Lib.cell_of_heap hb2]; rfl
 have f1 : w2.frozen? ⟨b, 1, none⟩ = false := Lib.frozen_of_heap hb2 1
 have HB2 := hid hb2
 clear hb2 c0 c1
 obtain ⟨ao, k, cap, rfl⟩ := own_slice hown'
 go_wp2
 go_ret2
 refine ⟨rfl, ⟨.inr ?_, ?_⟩, ?_⟩
 ·refine Lib.BuilderAt.put hB HB2.out (bs' := Lib.byteCells (l ++ s.data.toList)) ?_ (by decide)
  rw [Lib.byteCells_append, ← strCells_bytes]
  simpa [Lib.strCells_length, Lib.byteCells_length] using hown'
 ·have := hgrow.size; simp [World.setCell]; omega
 ·exact (hb1.grown hgrow (by omega) (fun k hk => (hown.lt k hk).1)).setCell (p := ⟨b, 1, none⟩) hB _
theorem bld_string (B b : Nat) (l : List UInt8) (w : World) (h : Bld B b l w) :
  Calls Tryz.prog 145 #[.pointer (some ⟨b, 0, none⟩)] w fun e w' => e = .returned (.string ⟨l.toArray⟩) ∧ Below B w w' :=
 Tryz.Builder_String_any B b l w h.1 h.2
end

section
open Go.RowKit
def spW (xs : List ByteArray) : List UInt8 := xs.flatMap fun x => 32 :: x.data.toList
theorem spW_succ (xs : List ByteArray) (k : Nat) (hk : k < xs.length) : spW (xs.take (k + 1)) = (spW (xs.take k) ++ [32]) ++ xs[k].data.toList := by
 unfold spW
 rw [List.take_succ_eq_append_getElem hk, List.flatMap_append]
 simp
theorem spW_len (xs : List ByteArray) (hz : ∀ y ∈ xs, y.size ≤ 1000) : (spW xs).length ≤ 1001 * xs.length := by
 unfold spW
 induction xs with
 | nil => simp
 | cons a xs ih =>
  have h1 := ih fun y hy => hz y (List.mem_cons_of_mem _ hy)
  have h2 := hz a (List.mem_cons_self ..)
  rw [Lib.size_eq] at h2
  rw [List.flatMap_cons, List.length_append, List.length_cons, List.length_cons]
  omega
theorem lret_s {a b : ByteArray} (h : a = b) : Ending.returned (.string a) = .returned (.string b) := by rw [h]
theorem quo_big {n : Int} (h1 : 1 ≤ n) (h2 : n ≤ 20) : ¬ (9223372036854775807 : Int) / n ≤ 1 := by
 have : (2 : Int) ≤ 9223372036854775807 / n := by
  rw [Int.le_ediv_iff_mul_le (by omega)]; omega
 omega
theorem sjoin_any (ao : Option Addr) (cap : Nat) (x : ByteArray) (xs : List ByteArray) (w : World) (hS : Strs w (.slice ao (xs.length + 1) cap) (x :: xs)) (h1 : 1 ≤ xs.length) (hn : xs.length ≤ 20) (hz : ∀ y ∈ x :: xs, y.size ≤ 1000) :
  Calls Tryz.prog 89 #[.slice ao (xs.length + 1) cap, .string ⟨#[32]⟩] w fun e w' => e = .returned (.string ⟨(x.data.toList ++ spW xs).toArray⟩) ∧ Below w.heap.size w w' := by
 have HS := hid (fun wx (hx : Below w.heap.size w wx) => hS.below hx)
 have HZ : Hid (∀ k (hk : k < (x :: xs).length), (x :: xs)[k].size ≤ 1000) := hid (fun k hk => hz _ (List.getElem_mem hk))
 have HZ1 := hid (hz x (List.mem_cons_self ..))
 have HZ2 : Hid (∀ k (hk : k < xs.length), xs[k].size ≤ 1000) := hid (fun k hk => hz _ (List.mem_cons_of_mem _ (List.getElem_mem hk)))
 have HSP := hid (fun k => spW_len (xs.take k) fun y hy => hz y (List.mem_cons_of_mem _ (List.mem_of_mem_take hy)))
 have HSU := hid (fun k (hk : k < xs.length) => spW_succ xs k hk)
 obtain ⟨g0, o0, rfl, hc0⟩ := hS.at (k := 0) (by simp)
 have HC0 : Hid (w.cell? ⟨g0, o0, none⟩ = some (.string x)) := hid hc0
 have hg0 : g0 < w.heap.size := block_lt hc0
 have hcap : xs.length + 1 ≤ cap ∧ cap ≤ 9223372036854775807 := by
  obtain ⟨a, c, e, h, _⟩ := hS.form
  cases e
  simpa using h
 clear hS hz hc0
 obtain ⟨n, hxn⟩ : ∃ n, n = xs.length := ⟨_, rfl⟩
 have HXN := hid hxn
 have hd0 : ((n : Int) + 1 == 0) = false := by rw [beq_eq_false_iff_ne]; omega
 have hd1 : ((n : Int) + 1 == 1) = false := by rw [beq_eq_false_iff_ne]; omega
 have hq0 := quo_big (n := (n : Int)) (by omega) (by omega)
 have hq : decide ((9223372036854775807 : Int) / (n : Int) ≤ 1) = false := decide_eq_false hq0
 rw [← hxn] at hcap hn h1 ⊢
 rw [← hxn] at HS
 clear hxn
 go_enter Tryz.func89, Tryz.ntmps89
 go_upto_region 11 with fail
 go_wp2_with fail
 go_loopw [5, 41] (fun v i wr => ∃ k m : Nat, k ≤ n + 1 ∧ i = .int .i64 k ∧ v = .int .i64 m ∧ m ≤ 20 + 1000 * k ∧ w = wr) (fun _ i _ => n + 1 - (intOf i).toNat)
 case atStart => exact ⟨0, n, by omega, rfl, by go_num, by omega, rfl⟩
 case round =>
  obtain ⟨k, m, hk, rfl, rfl, hm, rfl⟩ := hrel
  by_cases hlt : k < n + 1
  ·have hki : (k : Int) < ((n + 1 : Nat) : Int) := by omega
   have hkl : k < (x :: xs).length := by rw [List.length_cons, ← HXN.out]; exact hlt
   obtain ⟨g, o, e, hc⟩ := (HS.out _ (Below.refl _ _)).at hkl
   cases e
   have hz := HZ.out k hkl
   generalize (x :: xs)[k] = y at *
   have hov : decide (9223372036854775807 - (m : Int) < (y.size : Int)) = false := decide_eq_false (by omega)
   go_wp2_with fail
   go_roundw
   case rel => exact ⟨k + 1, m + y.size, by omega, by go_num, by go_num, by omega, by first | rfl | trivial⟩
   case measure => simp [intOf]; omega
  ·obtain rfl : k = n + 1 := by omega
   have hki : ¬ (n : Int) + 1 < (n : Int) + 1 := by omega
   have hm' : m ≤ 281474976710656 := by omega
   have HG := hid (fun wx (hb : wx.heap[w.heap.size]? = some (.cells #[.pointer none, .slice none 0 0] 218 (0, 0))) hz => Tryz.Builder_Grow_fresh w.heap.size w.heap.size m wx (Nat.le_refl _) hb hz hm')
   have hx0 : Below w.heap.size w (w.alloc (.cells #[.pointer none, .slice none 0 0] 218)) := (Below.refl _ _).alloc (Nat.le_refl _) _
   have hbk := heap_alloc_new w (.cells #[.pointer none, .slice none 0 0] 218)
   have hzz : w.heap.size ≤ (w.alloc (.cells #[.pointer none, .slice none 0 0] 218)).heap.size := hx0.size
   have HG1 := hid (HG.out _ hbk hzz)
   clear hm hk hm' HG hbk hzz hq hq0 hd0 hd1
   go_wp2_with fail
   refine HG1.out.mono ?_
   rintro e w2 ⟨rfl, hB2, hb2⟩
   have hb2 := hx0.trans hb2
   have hBl : Bld w.heap.size w.heap.size [] w2 := ⟨.inr hB2, hb2.size⟩
   obtain ⟨g, o, e, hc⟩ := (HS.out _ hb2).at (k := 0) (by simp)
   cases e
   simp only [List.getElem_cons_zero, Nat.add_zero] at hc
   have HZX := HZ1.out
   have CW := hid (write_any w.heap.size w.heap.size [] x w2 hBl (by simp; omega))
   rw [List.nil_append] at CW
   clear HG1 hx0 hB2 hBl HC0
   go_wp2_with fail
   refine CW.out.mono ?_
   rintro e w3 ⟨rfl, hB3, h3⟩
   have hb3 := hb2.trans h3
   clear CW hc h3 hb2 HZX
   go_wp2_with fail
   go_loopw [65] (fun i wx => ∃ k : Nat, k ≤ n ∧ i = .int .i64 k ∧ Bld w.heap.size w.heap.size (x.data.toList ++ spW (xs.take k)) wx ∧ Below w.heap.size w wx) (fun i _ => n - (intOf i).toNat)
   case atStart => exact ⟨0, by omega, rfl, by unfold spW; simpa using hB3, hb3⟩
   case round =>
    clear hB3 hb3
    obtain ⟨k, hk, rfl, hB, hb⟩ := hrel
    by_cases hlt : k < n
    ·have hki : (k : Int) < (n : Int) := by omega
     have hkl : k < xs.length := by rw [← HXN.out]; exact hlt
     obtain ⟨g, o, e, hc⟩ := (HS.out _ hb).at (k := k + 1) (by simp; exact hkl)
     cases e
     have HSK := hid (HSU.out k hkl)
     have hz := HZ2.out k hkl
     simp only [List.getElem_cons_succ] at hc
     rw [show o0 + (k + 1) = o0 + 1 + k from by omega] at hc
     generalize xs[k] = y at *
     have hsp := HSP.out k
     have hxz := HZ1.out
     rw [List.length_take] at hsp
     have hll : (x.data.toList ++ spW (xs.take k)).length ≤ 100000 := by rw [List.length_append, ← Lib.size_eq]; omega
     have HSE : Hid (x.data.toList ++ spW (xs.take (k + 1)) = (x.data.toList ++ spW (xs.take k) ++ [32]) ++ y.data.toList) := hid (by rw [HSK.out]; simp)
     generalize x.data.toList ++ spW (xs.take k) = L at *
     have CW1 := hid (write_any w.heap.size w.heap.size L ⟨#[32]⟩ wr hB (by show L.length + 1 ≤ _; omega))
     clear hB HSK
     go_wp2_with fail
     refine CW1.out.mono ?_
     rintro e w5 ⟨rfl, hB5, h5⟩
     have hc5 := (h5.cell (p := ⟨g0, o0 + 1 + k, none⟩) hg0).trans hc
     have hb5 := hb.trans h5
     have CW2 := hid (write_any w.heap.size w.heap.size (L ++ [32]) y w5 hB5 (by rw [List.length_append]; show L.length + 1 + _ ≤ _; omega))
     clear CW1 hB5 h5 hb hc hc5
     go_wp2_with fail
     refine CW2.out.mono ?_
     rintro e w6 ⟨rfl, hB6, h6⟩
     have hb6 := hb5.trans h6
     clear CW2 h6 hb5
     go_wp2_with fail
     go_roundw
     case rel => exact ⟨k + 1, by omega, by go_num, by rw [HSE.out]; exact hB6, hb6⟩
     case measure => simp [intOf]; omega
    ·obtain rfl : k = n := by omega
     have hki : ¬ (k : Int) < (k : Int) := by omega
     rw [HXN.out, List.take_length] at hB
     have CS := hid (bld_string w.heap.size w.heap.size _ wr hB)
     clear hB
     go_wp2_with fail
     refine CS.out.mono ?_
     rintro e w7 ⟨rfl, h7⟩
     go_wp2_with fail
     go_ret
     exact ⟨rfl, hb.trans h7⟩
end

section
open Go.RowKit
def nmsW (l : List Nat) : List ByteArray := l.map fun (a : Nat) => nameN (a : Int)
theorem nmsW_succ (l : List Nat) (k : Nat) (hk : k < l.length) : nmsW (l.take (k + 1)) = nmsW (l.take k) ++ [nameN (l[k] : Int)] := by
 unfold nmsW; rw [List.take_succ_eq_append_getElem hk, List.map_append]; rfl
def lnL (first : ByteArray) (l : List Nat) : List UInt8 := first.data.toList ++ spW (if l = [] then [⟨#[45]⟩] else nmsW l)
def lnB (first : ByteArray) (l : List Nat) : ByteArray := ⟨(lnL first l ++ [10]).toArray⟩
theorem name_size : ∀ a : Fin 12, (nameN (a.val : Int)).size ≤ 100 := by decide +kernel
theorem names_size {l : List Nat} (h : ∀ a ∈ l, a < 12) : ∀ y ∈ nmsW l, y.size ≤ 1000 := fun y hy => by
 obtain ⟨a, ha, rfl⟩ := List.mem_map.1 hy
 have := name_size ⟨a, h a ha⟩
 exact Nat.le_trans this (by omega)
theorem text_nl (l : List UInt8) : (⟨l.toArray⟩ : ByteArray) ++ (⟨#[10]⟩ : ByteArray) = ⟨(l ++ [10]).toArray⟩ := by
 apply byteArray_ext
 simp
theorem lnL_len (first : ByteArray) (l : List Nat) (hf : first.size ≤ 100) (hl : ∀ a ∈ l, a < 12) (hn : l.length ≤ 12) : (lnL first l).length ≤ 20000 := by
 unfold lnL
 rw [List.length_append, ← Lib.size_eq]
 split
 ·simp [spW]; omega
 ·have h1 := spW_len (nmsW l) (names_size hl)
  have h2 : (nmsW l).length = l.length := by unfold nmsW; simp
  omega
theorem line_any (first : ByteArray) (vl : Value) (l : List Nat) (w : World) (hK : Kinds w) (hI : Ints w vl (l.map Int.ofNat)) (hf : first.size ≤ 100) (hl : ∀ a ∈ l, a < 12) (hn : l.length ≤ 12) :
  Calls Tryz.prog 45 #[.string first, vl] w fun e w' => e = .returned (.string (lnB first l)) ∧ Below w.heap.size w w' := by
 obtain ⟨i0, hi, hz0, hz1, hz2⟩ := info_parts infoStr
 obtain ⟨ao, cap, rfl, hcap⟩ := hI.form
 rw [List.length_map] at hI hcap ⊢
 have HI := hid (fun wx (hx : Below w.heap.size w wx) => hI.below hx)
 have HN := hid (fun (a : Int) wx (hx : Below w.heap.size w wx) => lname_any a wx (hK.below hx))
 have HL := hid hl
 have HSU := hid (fun k (hk : k < l.length) => nmsW_succ l k hk)
 have HSZ := hid (fun k (hk : k < l.length) => (name_size ⟨l[k], hl _ (List.getElem_mem hk)⟩))
 have hx0 : Below w.heap.size w (w.alloc (.cells #[.string first] 9)) := (Below.refl _ _).alloc (Nat.le_refl _) _
 have ho0 : (w.alloc (.cells #[.string first] 9)).ownsRow w.heap.size 9 1 (.slice (some ⟨w.heap.size, 0, none⟩) 1 1) 1 [.string first] := World.ownsRow_lit (base := w.heap.size) (size := 1) w #[.string first] 1 (Nat.le_refl _) (by decide) rfl
 clear hI hK
 go_enter Tryz.func45, Tryz.ntmps45
 go_wp2_with fail
 go_loopw [5, 12] (fun v i wr => ∃ k : Nat, k ≤ l.length ∧ i = .int .i64 k ∧ wr.ownsRow w.heap.size 9 1 v (k + 1) ((first :: nmsW (l.take k)).map Value.string) ∧ Below w.heap.size w wr) (fun _ i _ => l.length - (intOf i).toNat)
 case atStart => exact ⟨0, by omega, rfl, by simpa [nmsW] using ho0, hx0⟩
 case round =>
  clear ho0 hx0
  obtain ⟨k, hk, rfl, hown, hb⟩ := hrel
  by_cases hlt : k < l.length
  ·have hki : (k : Int) < (l.length : Int) := by omega
   obtain ⟨g, o, e, hc⟩ := (HI.out _ hb).at (k := k) (by simpa using hlt)
   cases e
   rw [List.getElem_map] at hc
   have HS := hid (HSU.out k hlt)
   have hsz := HSZ.out k hlt
   have CN := hid (HN.out (Int.ofNat l[k]) _ hb)
   change Hid (Calls _ _ #[.int .i64 (l[k] : Int)] _ _) at CN
   change wr.cell? _ = some (.int .i64 (l[k] : Int)) at hc
   simp only [Int.ofNat_eq_natCast] at CN
   generalize nameN (l[k] : Int) = s at *
   generalize (l[k] : Int) = a at *
   have hbs := hb.size
   go_wp2_with fail
   refine CN.out.mono ?_
   rintro e w3 ⟨rfl, rfl⟩
   clear CN
   go_wp2_with (at_builtin; refine wpList_append_own _ rfl _ _ 164 rfl w.heap.size 9 i0 (.string ByteArray.empty) 1 16 Tryz.underlying164 hi hz0 hz1 hz2 rfl (by decide) _ _ _ rfl (hown.alloc _) ⟨_, 0, none⟩ 1 1 [.string s] rfl rfl ?c1 ?c2 ?c3 ?c4 ?c5 ?_)
   case c1 => exact cell_one_new _ _ _
   case c2 => intro u hu; simp at hu; subst hu; rfl
   case c3 => unfold maxLen; omega
   case c4 => omega
   case c5 => simp; omega
   intro v' w7 hown' hgrow _
   have hb' := below_app0 hb (Nat.le_refl _) hown (Nat.le_refl _) hgrow
   clear hown hb hgrow hc
   go_wp2_with fail
   go_roundw
   case rel =>
    refine ⟨k + 1, by omega, by go_num, ?_, hb'⟩
    rw [HS.out]
    simpa using hown'
   case measure => simp [intOf]; omega
  ·obtain rfl : k = l.length := by omega
   have hki : ¬ (l.length : Int) < (l.length : Int) := by omega
   rw [List.take_length] at hown
   have HZN := hid (names_size HL.out)
   have HNL : Hid ((nmsW l).length = l.length) := hid (by unfold nmsW; simp)
   have HLL := hid (lnL_len first l hf HL.out hn)
   by_cases h0 : l = []
   ·have HE : Hid (lnL first l = first.data.toList ++ spW [⟨#[45]⟩]) := hid (by unfold lnL; rw [if_pos h0])
    have HB : Hid (lnB first l = ⟨(lnL first l ++ [10]).toArray⟩) := hid rfl
    rw [HE.out] at HB HLL
    have hl0 : l.length = 0 := by rw [h0]; rfl
    have hw0 : (first :: nmsW l).map Value.string = [Value.string first] := by rw [h0]; rfl
    rw [hw0, hl0] at hown
    rw [hl0]
    clear HI HN HSU HSZ HZN HNL hl hcap h0 hl0 hw0 HE HL
    have hbs := hb.size
    go_wp2_with (at_builtin; refine wpList_append_own _ rfl _ _ 164 rfl w.heap.size 9 i0 (.string ByteArray.empty) 1 16 Tryz.underlying164 hi hz0 hz1 hz2 rfl (by decide) _ _ _ rfl (hown.alloc _) ⟨_, 0, none⟩ 1 1 [.string ⟨#[45]⟩] rfl rfl ?c1 ?c2 ?c3 ?c4 ?c5 ?_)
    case c2 => rfl
    case c3 => unfold maxLen; omega
    case c5 => omega
    intro v' w7 hown' hgrow _
    have hb' := below_app0 hb (Nat.le_refl _) hown (Nat.le_refl _) hgrow
    have hS : Strs w7 v' [first, ⟨#[45]⟩] := Strs.of_owns hown'
    obtain ⟨ao7, cap7, rfl, _⟩ := hS.form
    have CJ := hid (sjoin_any ao7 cap7 first [⟨#[45]⟩] w7 hS (by simp) (by simp) (by
     intro y hy
     simp at hy
     rcases hy with rfl | rfl
     ·omega
     ·decide))
    clear hown hb hgrow hown' hS
    generalize hL : first.data.toList ++ spW [⟨#[45]⟩] = L at *
    have hlen : L.length ≤ 20000 := HLL.out
    have hov : ¬ 9223372036854775807 < (⟨L.toArray⟩ : ByteArray).size + (⟨#[10]⟩ : ByteArray).size := by
     show ¬ _ < L.toArray.size + 1
     simp; omega
    have HT := hid (text_nl L)
    go_wp2_with fail
    refine CJ.out.mono ?_
    rintro e w8 ⟨rfl, h8⟩
    have hb8 := hb'.trans (h8.mono hb'.size)
    clear CJ h8 hb' HLL hL hlen
    generalize (⟨L.toArray⟩ : ByteArray) = B at *
    go_wp2_with fail
    go_ret
    exact ⟨lret_s (by rw [HB.out]; exact HT.out), hb8⟩
   ·have HE : Hid (lnL first l = first.data.toList ++ spW (nmsW l)) := hid (by unfold lnL; rw [if_neg h0])
    have HB : Hid (lnB first l = ⟨(lnL first l ++ [10]).toArray⟩) := hid rfl
    rw [HE.out] at HB HLL
    have hl0 : 1 ≤ l.length := by
     cases l with
     | nil => exact absurd rfl h0
     | cons a t => simp
    have hne : ((l.length : Int) == 0) = false := by rw [beq_eq_false_iff_ne]; omega
    have hS : Strs wr _ (first :: nmsW l) := Strs.of_owns hown
    obtain ⟨ao7, cap7, rfl, _⟩ := hS.form
    rw [List.length_cons] at hS ⊢
    have CJ := hid (sjoin_any ao7 cap7 first (nmsW l) wr hS (by rw [HNL.out]; omega) (by rw [HNL.out]; omega) (by
     intro y hy
     rcases List.mem_cons.1 hy with rfl | hy
     ·omega
     ·exact HZN.out y hy))
    clear hown hS HI HN HSU HSZ HZN hl h0 HL
    generalize hL : first.data.toList ++ spW (nmsW l) = L at *
    have hlen : L.length ≤ 20000 := HLL.out
    have hov : ¬ 9223372036854775807 < (⟨L.toArray⟩ : ByteArray).size + (⟨#[10]⟩ : ByteArray).size := by
     show ¬ _ < L.toArray.size + 1
     simp; omega
    have HT := hid (text_nl L)
    go_wp2_with fail
    refine CJ.out.mono ?_
    rintro e w8 ⟨rfl, h8⟩
    have hb8 := hb.trans (h8.mono hb.size)
    clear CJ h8 hb HLL hL hlen
    generalize (⟨L.toArray⟩ : ByteArray) = B at *
    go_wp2_with fail
    go_ret
    exact ⟨lret_s (by rw [HB.out]; exact HT.out), hb8⟩
end

section
open Go.RowKit
theorem ints_oneT (w : World) (x : Int) (t : TypeId) : Ints (w.alloc (.cells #[.int .i64 x] t)) (.slice (some ⟨w.heap.size, 0, none⟩) 1 1) [x] := by
 refine ⟨rfl, _, 1, rfl, ⟨Nat.le_refl _, by decide⟩, fun h => (by cases h), fun _ => ⟨w.heap.size, 0, rfl, fun i hi => ?_⟩⟩
 have hi0 : i = 0 := by simp at hi; omega
 subst hi0
 rw [cell_of_row _ _ _ _ _ _ (heap_alloc_new w _)]; rfl
end

section
open Go.RowKit
theorem imp_self : ∀ x : Fin 12, impB (x.val : Int) (x.val : Int) = true := by decide +kernel
theorem imp_trans : ∀ x y z : Fin 12, impB (x.val : Int) (y.val : Int) = true → impB (y.val : Int) (z.val : Int) = true → impB (x.val : Int) (z.val : Int) = true := by decide +kernel
end

section
open Go.RowKit
def lvTo (r : Nat → Bool) (k : Nat) : List Nat := (List.range k).filter r
end

section
open Go.RowKit
def lvI (r : Nat → Bool) : List Int := (lvTo r 12).map Int.ofNat
theorem mem_lvI {r : Nat → Bool} {x : Int} : x ∈ lvI r ↔ ∃ a, a < 12 ∧ r a = true ∧ x = (a : Int) := by
 unfold lvI lvTo
 rw [List.mem_map]
 constructor
 ·rintro ⟨a, ha, rfl⟩
  obtain ⟨h1, h2⟩ := List.mem_filter.1 ha
  exact ⟨a, List.mem_range.1 h1, h2, rfl⟩
 ·rintro ⟨a, h1, h2, rfl⟩
  exact ⟨a, List.mem_filter.2 ⟨List.mem_range.2 h1, h2⟩, rfl⟩
def Shut (r : Nat → Bool) : Prop := ∀ a b : Nat, a < 12 → b < 12 → r a = true → impB (a : Int) (b : Int) = true → r b = true
theorem abv_iff {r : Nat → Bool} {b : Nat} : abv r (b : Int) = true ↔ ∃ a, a < 12 ∧ r a = true ∧ a ≠ b ∧ impB (a : Int) (b : Int) = true := by
 unfold abv abvTo
 rw [List.any_eq_true]
 constructor
 ·rintro ⟨a, ha, h⟩
  simp only [Bool.and_eq_true, decide_eq_true_eq] at h
  exact ⟨a, List.mem_range.1 ha, h.1, fun e => h.2.1 (by rw [e]), h.2.2⟩
 ·rintro ⟨a, ha, h1, h2, h3⟩
  refine ⟨a, List.mem_range.2 ha, ?_⟩
  simp only [Bool.and_eq_true, decide_eq_true_eq]
  exact ⟨h1, fun e => h2 (by omega), h3⟩
theorem cls_iff {r : Nat → Bool} : cls r = true ↔ Shut r := by
 unfold cls clsTo Shut
 rw [List.all_eq_true]
 constructor
 ·intro h a b ha hb hr hi
  cases hrb : r b
  ·exfalso
   have := h b (List.mem_range.2 hb)
   rw [hrb] at this
   have hv : abv r (b : Int) = true := abv_iff.2 ⟨a, ha, hr, fun e => (by rw [e, hrb] at hr; cases hr), hi⟩
   rw [hv] at this
   cases this
  ·rfl
 ·intro h b hb
  cases hrb : r b
  ·cases hv : abv r (b : Int)
   ·rfl
   ·exfalso
    obtain ⟨a, ha, h1, _, h3⟩ := abv_iff.1 hv
    have := h a b ha (List.mem_range.1 hb) h1 h3
    rw [hrb] at this; cases this
  ·rfl
def stI (r : Nat → Bool) : List Int := (strTo r 12).map Int.ofNat
theorem mem_stI {r : Nat → Bool} {x : Int} : x ∈ stI r ↔ ∃ a, a < 12 ∧ r a = true ∧ abv r (a : Int) = false ∧ x = (a : Int) := by
 unfold stI strTo
 rw [List.mem_map]
 constructor
 ·rintro ⟨a, ha, rfl⟩
  obtain ⟨h1, h2⟩ := List.mem_filter.1 ha
  simp only [Bool.and_eq_true, Bool.not_eq_true'] at h2
  exact ⟨a, List.mem_range.1 h1, h2.1, h2.2, rfl⟩
 ·rintro ⟨a, h1, h2, h3, rfl⟩
  exact ⟨a, List.mem_filter.2 ⟨List.mem_range.2 h1, by rw [h2, h3]; rfl⟩, rfl⟩
def rank (a : Nat) : Nat := ((List.range 12).filter fun b : Nat => impB (a : Int) (b : Int)).length
theorem rank_lt : ∀ a b : Fin 12, a ≠ b → impB (a.val : Int) (b.val : Int) = true → rank b.val < rank a.val := by decide +kernel
theorem rank_le : ∀ a : Fin 12, rank a.val ≤ 12 := by decide +kernel
theorem strong_over (r : Nat → Bool) : ∀ (n a : Nat), a < 12 → r a = true → 12 - rank a ≤ n → ∃ s, s < 12 ∧ r s = true ∧ abv r (s : Int) = false ∧ impB (s : Int) (a : Int) = true := by
 intro n
 induction n with
 | zero =>
  intro a ha hr hn
  cases hv : abv r (a : Int)
  ·exact ⟨a, ha, hr, hv, imp_self ⟨a, ha⟩⟩
  ·obtain ⟨c, hc, _, h2, h3⟩ := abv_iff.1 hv
   have h4 := rank_lt ⟨c, hc⟩ ⟨a, ha⟩ (fun e => h2 (by simpa using e)) h3
   have h5 := rank_le ⟨c, hc⟩
   simp only at h4 h5
   omega
 | succ n ih =>
  intro a ha hr hn
  cases hv : abv r (a : Int)
  ·exact ⟨a, ha, hr, hv, imp_self ⟨a, ha⟩⟩
  ·obtain ⟨c, hc, h1, h2, h3⟩ := abv_iff.1 hv
   have h4 := rank_lt ⟨c, hc⟩ ⟨a, ha⟩ (fun e => h2 (by simpa using e)) h3
   have h5 := rank_le ⟨c, hc⟩
   simp only at h4 h5
   obtain ⟨s, hs, g1, g2, g3⟩ := ih c hc h1 (by omega)
   exact ⟨s, hs, g1, g2, imp_trans ⟨s, hs⟩ ⟨c, hc⟩ ⟨a, ha⟩ g3 h3⟩
theorem blw_strong (r : Nat → Bool) {b : Nat} (hb : b < 12) : blw (stI r) b = (lvI r).any fun a => impB a (b : Int) := by
 rw [Bool.eq_iff_iff]
 unfold blw
 rw [List.any_eq_true, List.any_eq_true]
 constructor
 ·rintro ⟨x, hx, h⟩
  obtain ⟨a, ha, hr, _, rfl⟩ := mem_stI.1 hx
  exact ⟨_, mem_lvI.2 ⟨a, ha, hr, rfl⟩, h⟩
 ·rintro ⟨x, hx, h⟩
  obtain ⟨a, ha, hr, rfl⟩ := mem_lvI.1 hx
  obtain ⟨s, hs, g1, g2, g3⟩ := strong_over r _ a ha hr (Nat.le_refl _)
  exact ⟨_, mem_stI.2 ⟨s, hs, g1, g2, rfl⟩, imp_trans ⟨s, hs⟩ ⟨a, ha⟩ ⟨b, hb⟩ g3 h⟩
theorem blw_shut {r : Nat → Bool} (h : cls r = true) : rowB (blw (stI r)) = rowB r := by
 apply rowB_congr
 intro b hb
 rw [blw_strong r hb, Bool.eq_iff_iff, List.any_eq_true]
 constructor
 ·rintro ⟨x, hx, hi⟩
  obtain ⟨a, ha, hr, rfl⟩ := mem_lvI.1 hx
  exact cls_iff.1 h a b ha hb hr hi
 ·intro hr
  exact ⟨_, mem_lvI.2 ⟨b, hb, hr, rfl⟩, imp_self ⟨b, hb⟩⟩
end

section
open Go.RowKit
theorem items_rowB (r : Nat → Bool) (w : World) : ∀ (is : List Nat), (∀ i ∈ is, i < 12) → (Op.eqItems 9999 4 1 (rowB r) (rowB r) is).run Tryz.prog w = .ok true w
 | [], _ => by simp [Op.eqItems]
 | i :: is, h => by
  have hi := h i List.mem_cons_self
  have h1 := rowB_at r hi
  have ih := items_rowB r w is (fun j hj => h j (List.mem_cons_of_mem _ hj))
  have hp : (part 4 (rowB r) (i * 1)).run Tryz.prog w = .ok (.bool (r i)) w := by
   simp [part, isAgg, Sem.run_bind, run_underlying Tryz.underlying4 w, h1]
  have he : (Op.equalIn (9998 + 1) 4 (.bool (r i)) (.bool (r i))).run Tryz.prog w = .ok true w := by
   rw [run_equalIn_bool w 9998 4 _ _ Tryz.underlying4]
   simp
  simp only [Op.eqItems, Sem.run_bind, hp, Result.andThen_ok]
  rw [he]
  simp only [Result.andThen_ok, Bool.not_true, Bool.false_eq_true, if_false]
  exact ih
theorem run_eql_rowB (r : Nat → Bool) (w : World) : (binOp .eql 33 (.agg (rowB r)) (.agg (rowB r))).run Tryz.prog w = .ok (.bool true) w := by
 obtain ⟨i, hi, _⟩ := Option.map_eq_some_iff.1 infoBool
 have hc : Tryz.prog.cellsOf 4 = 1 := by kernel_rfl
 rw [run_eql_struct, run_equalIn_array w 9999 (rowB r) (rowB r) Tryz.underlying33 hi, hc, items_rowB r w _ (fun i hi => List.mem_range.1 hi)]
 rfl
theorem guard_rowB (o : BinOp) (x y : Operand) (r s : Nat → Bool) (w : World) : Sem.run Tryz.prog (eqGuard o 33 x y (.agg (rowB r)) (.agg (rowB s))) w = .ok () w :=
 run_eqGuard_agg w o 33 x y _ _ (by kernel_rfl)
end

section
open Go.RowKit
theorem yields_load_rowB {ops : Array Oper} {S : World → Prop} {o : Oper} {a : Act} {g : Nat} {r : Nat → Bool} (hw : Region.wanted o (yielded ops a.tmps) = true) (x : Operand) (ho : o.op = .load 33 x)
  (hx : a.eval x = .pointer (some ⟨g, 0, none⟩)) (hS : ∀ w, S w → BRow w g r) : YieldsIf Tryz.prog ops S o (.agg (rowB r)) a :=
 .inl ⟨hw, fun w hw' => by
  unfold execOp
  simp only [ho, hx, Instr.loadAt, Instr.sureAddr, Sem.run_bind, Sem.run_pure, Result.andThen_ok, run_loadVar_row w g _ _ _ _ _ (hS w hw') Tryz.underlying33 rfl (infoRow' _)]⟩
theorem takeR {P : Program} {ops : Array Oper} {Q : Exit → Act → World → Prop} {md : Region.Mode} {S : World → Prop} (d : Option Tmp) {i : Nat} {oi : Oper} {v : Value} {fuel : Nat} {listed : Array Bool} {a : Act} {w : World} (hi : ops[i]? = some oi) (hd : oi.dst = d)
  (hs : Region.noSelect ops = true) (hf : Region.free md ops listed i = true) (hr : (Region.ready md ops listed).contains i = true)
  (hQ : ∀ c a w, Q (.panic c) (a.put oi.dst v) w → Q (.panic c) a w) (hy : YieldsIf P ops S oi v a) (hS : S w)
  (h : wpAnyH P md ops Q S fuel (listed.setIfInBounds i true) (a.put d v) w) : wpAnyH P md ops Q S (fuel + 1) listed a w := by
 subst hd; exact wpAnyH_take hi hs hf hr hQ hy hS h
end

end Go.Proofs.YtadihdkpoeibhaaGreatDoor
