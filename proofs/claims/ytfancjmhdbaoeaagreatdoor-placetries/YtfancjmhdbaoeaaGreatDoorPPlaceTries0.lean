/- Walks and plain facts that the proof of the statement PlaceTries uses, joined: Law SetM SetA SetN SetB Tab Slc OpZ ArgZ TxZ ArgT ArgC RelM RelC RelP ArgG ArgA SetC SetD SetE SetF SetG RelA RelB RelD RelE LeaA MapI. Conditions: each theorem's own. -/
import Derived.Test.YtfancjmhdbaoeaaGreatDoorRows
import Derived.Test.YtfancjmhdbaoeaaGreatDoorProg
import Derived.WalkKit
import Derived.ProofKit
import Derived.OpenShut
import Derived.Deep.DeepHandedRow
import Derived.Lib.LaidTab
import Derived.Laws.Bits64b
import Derived.WalkSpells
import Derived.WalkLawsBesides
import Derived.Lib.Hide
import Derived.Laws.Wrap64
import Derived.WalkSmall
import Derived.Laws.AppendOwnNone
import Derived.Deep.Slices
import Derived.Deep.Strs
import Derived.Lib.SmallJoins
import Derived.Deep.SlicePairs
import Derived.Deep.QuietTactic
import Derived.BigQuiet
import Derived.StillTailTactics
import Derived.Laws.Tables
import Derived.Laws.CopyOwn
import Derived.Maps.RangeWalk
namespace Go.Proofs.YtfancjmhdbaoeaaGreatDoor
set_option maxRecDepth 100000
open Go.ChangeShapes Go.WideShapes Go.ChangeAt Go.RowKit

theorem own : ownKnob Tryz.prog.godebug = none := by kernel_rfl
theorem laidOut : laidOutB Tryz.prog = true := by kernel_rfl

theorem trodAll_stays {H : Type} {enc : TypeId × Value → H} {W W' : World} (hb : Below W.heap.size W W') :
    ∀ (ts : List TypeId) (vs : List Value) (ds : List (DataW H)) (ps : List MemPlace), (∀ t ∈ ts, Tryz.prog.readableRec t = true ∧ t < Tryz.prog.types.size) →
      DataW.TrodAll enc Tryz.prog W 0 (fun _ => true) true ts vs ds ps → (∀ x ∈ ps, x.block < W.heap.size) →
      DataW.TrodAll enc Tryz.prog W' 0 (fun b => decide (b < W.heap.size)) true ts vs ds ps
  | [], vs, ds, ps, _, h, _ => by
    obtain ⟨rfl, rfl, rfl⟩ := trodAll_nil h
    exact trodAll_mk0
  | t :: ts, vs, ds, ps, hr, h, hlt => by
    obtain ⟨v, vs', d, ds', p, q, rfl, rfl, rfl, hd, hrest⟩ := trodAll_cons h
    have h1 := hr t List.mem_cons_self
    exact trodAll_cons_mk (Below.trod laidOut h1.1 h1.2 hd hb fun x hx => hlt x (List.mem_append_left _ hx))
      (trodAll_stays hb ts vs' ds' q (fun u hu => hr u (List.mem_cons_of_mem _ hu)) hrest fun x hx => hlt x (List.mem_append_right _ hx))

/-- FROM THE CONTRACT TO WHAT THE ROW ASKS: a law that answers true, with nothing below the old heap changed. -/
theorem law_post {H : Type} {enc : TypeId × Value → H} {s : ChangeSpec} {f : Func} {W W' : World} {args : Array Value} {ds gs : List (DataW H)} {before : List MemPlace}
    (hW : DataW.Whole enc Tryz.prog f.params.toList s.vars false W args.toList ds gs before) (hv : s.vars = [])
    (hr : ∀ t ∈ f.params.toList, Tryz.prog.readableRec t = true ∧ t < Tryz.prog.types.size) (hb : Below W.heap.size W W')
    (hres : f.resultTypes = #[4]) (hfn : (s.fn H (ds ++ [])).results = [.lit (.bool true)]) (hfa : (s.fn H (ds ++ [])).args = ds) (hfv : (s.fn H (ds ++ [])).vars = []) :
    s.post enc Tryz.prog f false true false false W args (.bool true) W' := by
  have hW' := hW
  obtain ⟨p, q, hA, hV, hpq, hfz, hnd⟩ := hW
  rw [hv] at hV
  obtain ⟨rfl, rfl⟩ := trodVars_none hV
  have hlt : ∀ x ∈ p, x.block < W.heap.size := fun x hx => by
    have := hW'.lt x (by rw [hpq]; exact List.mem_append_left _ hx)
    simpa using this
  refine ⟨ds, [], before, [], p, [], hW', ?_, ?_, ?_, hb.frame _, fun h => by cases h⟩
  · rw [hfn, hres]
    exact trodAll_cons_mk (shut_bool Tryz.underlying4 _) trodAll_mk0
  · rw [hfa]
    exact trodAll_stays hb _ _ _ _ hr hA hlt
  · rw [hfv, hv]; exact rfl
end Go.Proofs.YtfancjmhdbaoeaaGreatDoor

namespace Go.Proofs.YtfancjmhdbaoeaaGreatDoor
set_option maxRecDepth 100000

/-- The bit of one number, 0 where it is no number from 0 to 63. -/
def bt (n : Int) : Nat := if 0 ≤ n ∧ n < 64 then 2 ^ n.toNat else 0
/-- Is a number in a set? -/
def hasB (s : Nat) (n : Int) : Bool := decide (0 ≤ n ∧ n < 64) && s.testBit n.toNat
/-- A set's word: below 2^64. -/
def IsSet (s : Nat) : Prop := s < 18446744073709551616
def withS (s : Nat) (n : Int) : Nat := s ||| bt n
def woS (s : Nat) (n : Int) : Nat := s ^^^ (s &&& bt n)

theorem isSet_iff (s : Nat) : IsSet s ↔ s < 2 ^ 64 := by unfold IsSet; omega
theorem isSet_of_bits {s : Nat} (h : ∀ i, 64 ≤ i → s.testBit i = false) : IsSet s := by
  rw [isSet_iff]; exact Nat.lt_pow_two_of_testBit s h
theorem IsSet.high {s : Nat} (h : IsSet s) {i : Nat} (hi : 64 ≤ i) : s.testBit i = false := by
  rw [isSet_iff] at h
  exact Nat.testBit_lt_two_pow (Nat.lt_of_lt_of_le h (Nat.pow_le_pow_right (by omega) hi))
theorem set_ext {s t : Nat} (hs : IsSet s) (ht : IsSet t) (h : ∀ i, i < 64 → s.testBit i = t.testBit i) : s = t := by
  apply Nat.eq_of_testBit_eq
  intro i
  by_cases hi : i < 64
  · exact h i hi
  · rw [hs.high (by omega), ht.high (by omega)]
theorem testBit_bt (n : Int) (i : Nat) : (bt n).testBit i = (decide (0 ≤ n ∧ n < 64) && decide (n.toNat = i)) := by
  unfold bt
  split
  · rename_i h; rw [Nat.testBit_two_pow]; simp [h]
  · rename_i h; simp [h]
theorem isSet_bt (n : Int) : IsSet (bt n) := by
  apply isSet_of_bits
  intro i hi
  rw [testBit_bt]
  by_cases h : 0 ≤ n ∧ n < 64
  · simp [h]; omega
  · simp [h]
theorem isSet_and {s t : Nat} (hs : IsSet s) : IsSet (s &&& t) := by
  apply isSet_of_bits
  intro i hi
  simp [hs.high hi]
theorem isSet_or {s t : Nat} (hs : IsSet s) (ht : IsSet t) : IsSet (s ||| t) := by
  apply isSet_of_bits
  intro i hi
  simp [hs.high hi, ht.high hi]
theorem isSet_xor {s t : Nat} (hs : IsSet s) (ht : IsSet t) : IsSet (s ^^^ t) := by
  apply isSet_of_bits
  intro i hi
  simp [hs.high hi, ht.high hi]
theorem isSet_withS {s : Nat} {n : Int} (hs : IsSet s) : IsSet (withS s n) := isSet_or hs (isSet_bt n)
theorem isSet_woS {s : Nat} {n : Int} (hs : IsSet s) : IsSet (woS s n) := isSet_xor hs (isSet_and hs)
theorem testBit_withS (s : Nat) (n : Int) (i : Nat) : (withS s n).testBit i = (s.testBit i || (decide (0 ≤ n ∧ n < 64) && decide (n.toNat = i))) := by
  simp only [withS, Nat.testBit_or, testBit_bt]
theorem testBit_woS (s : Nat) (n : Int) (i : Nat) : (woS s n).testBit i = (s.testBit i && !(decide (0 ≤ n ∧ n < 64) && decide (n.toNat = i))) := by
  simp only [woS, Nat.testBit_xor, Nat.testBit_and, testBit_bt]
  cases s.testBit i <;> simp
theorem and_bt_ne (s : Nat) (n : Int) : (s &&& bt n != 0) = hasB s n := by
  unfold hasB
  by_cases h : 0 ≤ n ∧ n < 64
  · have e : s &&& bt n = if s.testBit n.toNat then 2 ^ n.toNat else 0 := by
      apply Nat.eq_of_testBit_eq
      intro i
      rw [Nat.testBit_and, testBit_bt]
      by_cases hb : s.testBit n.toNat = true
      · simp only [h, hb, if_true, Nat.testBit_two_pow]
        by_cases e : n.toNat = i
        · subst e; simp [hb]
        · simp [e]
      · simp only [h, hb]
        by_cases e : n.toNat = i
        · subst e; simp [hb]
        · simp [e]
    rw [e]
    cases hb : s.testBit n.toNat
    · simp
    · have : 0 < 2 ^ n.toNat := Nat.two_pow_pos _
      simp [h]
  · have : bt n = 0 := by unfold bt; simp [h]
    rw [this]; simp [h]
theorem bits_has (s : Nat) (n : Int) (hs : IsSet s) : (Go.bits .and .u64 (s : Int) ((bt n : Nat) : Int) != 0) = hasB s n := by
  rw [Go.bits_and_u64_nat s (bt n) hs (isSet_bt n), ← and_bt_ne]
  rw [Bool.eq_iff_iff]; simp
theorem bits_with (s : Nat) (n : Int) (hs : IsSet s) : Go.bits .or .u64 (s : Int) ((bt n : Nat) : Int) = ((withS s n : Nat) : Int) :=
  Go.bits_or_u64_nat s (bt n) hs (isSet_bt n)
theorem bits_andNot_u64_nat (a b : Nat) (ha : a < 18446744073709551616) (hb : b < 18446744073709551616) :
    Go.bits .andNot .u64 (a : Int) (b : Int) = ((a ^^^ (a &&& b) : Nat) : Int) := by
  have hx : a ^^^ (a &&& b) < 2 ^ 64 := Nat.xor_lt_two_pow (by omega) (Nat.and_lt_two_pow _ (by omega))
  have h1 : (BitVec.ofInt 64 (a : Int)).toNat = a := by
    rw [BitVec.ofInt_natCast, BitVec.toNat_ofNat]; exact Nat.mod_eq_of_lt (by omega)
  have h2 : (BitVec.ofInt 64 (b : Int)).toNat = b := by
    rw [BitVec.ofInt_natCast, BitVec.toNat_ofNat]; exact Nat.mod_eq_of_lt (by omega)
  show IntKind.u64.wrap ((BitVec.ofInt 64 (a : Int) &&& ~~~ (BitVec.ofInt 64 (b : Int))).toNat : Int) = _
  have e : ∀ x y : BitVec 64, x &&& ~~~ y = x ^^^ (x &&& y) := by
    intro x y; ext i hi; simp; cases x[i] <;> cases y[i] <;> rfl
  rw [e, BitVec.toNat_xor, BitVec.toNat_and, h1, h2, IntKind.wrap_u64]
  omega
theorem bits_wo (s : Nat) (n : Int) (hs : IsSet s) : Go.bits .andNot .u64 (s : Int) ((bt n : Nat) : Int) = ((woS s n : Nat) : Int) :=
  bits_andNot_u64_nat s (bt n) hs (isSet_bt n)
theorem wrap_two_pow (n : Int) (h0 : 0 ≤ n) (h1 : n < 64) : IntKind.u64.wrap (2 ^ n.toNat) = ((bt n : Nat) : Int) := by
  have h := isSet_bt n
  unfold bt IsSet at *
  rw [if_pos ⟨h0, h1⟩] at *
  rw [IntKind.wrap_u64]
  have : ((2 : Int) ^ n.toNat) = ((2 ^ n.toNat : Nat) : Int) := by simp
  rw [this]; generalize 2 ^ n.toNat = k at *; omega
theorem bt_out (n : Int) (h : ¬ (0 ≤ n ∧ n < 64)) : (0 : Int) = ((bt n : Nat) : Int) := by unfold bt; simp [h]
end Go.Proofs.YtfancjmhdbaoeaaGreatDoor

namespace Go.Proofs.YtfancjmhdbaoeaaGreatDoor
set_option maxRecDepth 100000
open Go.RowKit

theorem ret_i {k : IntKind} {a b : Int} (h : a = b) : Ending.returned (.int k a) = .returned (.int k b) := by rw [h]
theorem ret_b {a b : Bool} (h : a = b) : Ending.returned (.bool a) = .returned (.bool b) := by rw [h]

set_option maxHeartbeats 400000 in
theorem bit_in (n : Int) (w : World) (h0 : 0 ≤ n) (h1 : n < 64) :
    Calls Tryz.prog 142 #[.int .i64 n] w fun e w' => e = .returned (.int .u64 ((bt n : Nat) : Int)) ∧ w = w' := by
  go_enter Tryz.func142, Tryz.ntmps142
  go_wp2
  go_ret
  exact ⟨ret_i (wrap_two_pow n h0 h1), rfl⟩
set_option maxHeartbeats 400000 in
theorem bit_out (n : Int) (w : World) (h : ¬ (0 ≤ n ∧ n < 64)) :
    Calls Tryz.prog 142 #[.int .i64 n] w fun e w' => e = .returned (.int .u64 ((bt n : Nat) : Int)) ∧ w = w' := by
  have e := bt_out n h
  have H := Lib.hid e; clear e
  by_cases h0 : n < 0
  all_goals
    go_enter Tryz.func142, Tryz.ntmps142
    go_wp2
    go_ret
    exact ⟨ret_i H.out, rfl⟩
theorem bit_any (n : Int) (w : World) :
    Calls Tryz.prog 142 #[.int .i64 n] w fun e w' => e = .returned (.int .u64 ((bt n : Nat) : Int)) ∧ w = w' := by
  by_cases h : 0 ≤ n ∧ n < 64
  · exact bit_in n w h.1 h.2
  · exact bit_out n w h

set_option maxHeartbeats 400000 in
theorem has_any (s : Nat) (n : Int) (w : World) (hs : IsSet s) :
    Calls Tryz.prog 92 #[.int .u64 (s : Int), .int .i64 n] w fun e w' => e = .returned (.bool (hasB s n)) ∧ w = w' := by
  go_enter Tryz.func92, Tryz.ntmps92
  go_wp2_with (go_at_call 142; refine (bit_any _ _).mono ?_; rintro e w' ⟨rfl, rfl⟩)
  go_ret
  exact ⟨ret_b (bits_has s n hs), rfl⟩
set_option maxHeartbeats 400000 in
theorem with_any (s : Nat) (n : Int) (w : World) (hs : IsSet s) :
    Calls Tryz.prog 96 #[.int .u64 (s : Int), .int .i64 n] w fun e w' => e = .returned (.int .u64 ((withS s n : Nat) : Int)) ∧ w = w' := by
  go_enter Tryz.func96, Tryz.ntmps96
  go_wp2_with (go_at_call 142; refine (bit_any _ _).mono ?_; rintro e w' ⟨rfl, rfl⟩)
  go_ret
  exact ⟨ret_i (bits_with s n hs), rfl⟩
set_option maxHeartbeats 400000 in
theorem wo_any (s : Nat) (n : Int) (w : World) (hs : IsSet s) :
    Calls Tryz.prog 87 #[.int .u64 (s : Int), .int .i64 n] w fun e w' => e = .returned (.int .u64 ((woS s n : Nat) : Int)) ∧ w = w' := by
  go_enter Tryz.func87, Tryz.ntmps87
  go_wp2_with (go_at_call 142; refine (bit_any _ _).mono ?_; rintro e w' ⟨rfl, rfl⟩)
  go_ret
  exact ⟨ret_i (bits_wo s n hs), rfl⟩
end Go.Proofs.YtfancjmhdbaoeaaGreatDoor

namespace Go.Proofs.YtfancjmhdbaoeaaGreatDoor
set_option maxRecDepth 100000

/-- The numbers of a set below k, rising. -/
def lstTo (s k : Nat) : List Nat := (List.range k).filter fun i => s.testBit i
def lst (s : Nat) : List Nat := lstTo s 64
/-- The least number of a set, 64 where it is empty. -/
def fst (s : Nat) : Nat := (lst s).headD 64

theorem lstTo_len (s k : Nat) : (lstTo s k).length ≤ k := by
  unfold lstTo
  have := List.length_filter_le (fun i => s.testBit i) (List.range k)
  simpa using this
theorem mem_lst {s i : Nat} : i ∈ lst s ↔ i < 64 ∧ s.testBit i = true := by simp [lst, lstTo]
theorem mem_lst' {s i : Nat} (hs : IsSet s) : i ∈ lst s ↔ s.testBit i = true := by
  rw [mem_lst]
  constructor
  · exact fun h => h.2
  · intro h
    refine ⟨?_, h⟩
    by_cases h2 : i < 64
    · exact h2
    · rw [hs.high (by omega)] at h; cases h
theorem lst_nodup (s : Nat) : (lst s).Nodup := List.Pairwise.filter _ List.nodup_range
theorem lst_sorted (s : Nat) : (lst s).Pairwise (· < ·) := List.Pairwise.filter _ List.pairwise_lt_range
theorem lst_zero : lst 0 = [] := by decide
theorem lst_nil {s : Nat} (hs : IsSet s) (h : lst s = []) : s = 0 := by
  apply set_ext hs (by unfold IsSet; omega)
  intro i hi
  cases hb : s.testBit i
  · simp
  · have : i ∈ lst s := mem_lst.2 ⟨hi, hb⟩
    rw [h] at this; cases this
theorem lst_woS (s : Nat) (n : Nat) (hn : n < 64) : lst (woS s (n : Int)) = (lst s).filter (fun i => i != n) := by
  unfold lst lstTo
  rw [List.filter_filter]
  apply List.filter_congr
  intro i _
  rw [testBit_woS]
  have : (0 ≤ (n : Int) ∧ (n : Int) < 64) := by omega
  simp only [this, and_self, decide_true, Bool.true_and, Int.toNat_natCast, bne]
  rw [Bool.and_comm]
  congr 2
  rw [Bool.eq_iff_iff]; simp; exact ⟨fun h => h.symm, fun h => h.symm⟩
theorem lst_cons {s : Nat} (h : lst s ≠ []) : lst s = fst s :: lst (woS s (fst s : Int)) := by
  unfold fst
  match e : lst s with
  | [] => exact absurd e h
  | a :: t =>
    have ha : a < 64 := (mem_lst.1 (e ▸ List.mem_cons_self : a ∈ lst s)).1
    simp only [List.headD_cons]
    rw [lst_woS s a ha, e]
    have hn := e ▸ lst_nodup s
    rw [List.nodup_cons] at hn
    rw [List.filter_cons]
    simp
    symm
    rw [List.filter_eq_self]
    intro b hb
    simp
    rintro rfl
    exact hn.1 hb
theorem fst_mem {s : Nat} (h : lst s ≠ []) : fst s ∈ lst s := by
  rw [lst_cons h]; exact List.mem_cons_self
theorem fst_lt {s : Nat} (h : lst s ≠ []) : fst s < 64 := (mem_lst.1 (fst_mem h)).1
theorem fst_le (s : Nat) : fst s ≤ 64 := by
  by_cases h : lst s = []
  · simp [fst, h]
  · exact Nat.le_of_lt (fst_lt h)
theorem fst_least {s i : Nat} (h : i < fst s) : s.testBit i = false := by
  cases hb : s.testBit i
  · rfl
  · have hi : i < 64 := Nat.lt_of_lt_of_le h (fst_le s)
    have hm : i ∈ lst s := mem_lst.2 ⟨hi, hb⟩
    have hne : lst s ≠ [] := by intro e; rw [e] at hm; cases hm
    have hs := lst_sorted s
    rw [lst_cons hne] at hm hs
    rcases List.mem_cons.1 hm with e | e
    · omega
    · have := (List.pairwise_cons.1 hs).1 i e
      omega
theorem lst_ne {s : Nat} (hs : IsSet s) (h : 0 < s) : lst s ≠ [] := by
  intro e; have := lst_nil hs e; omega

/-! ### The lowest bit, as the library finds it -/
theorem low_div {s k : Nat} (hlow : ∀ i, i < k → s.testBit i = false) : s % 2 ^ k = 0 := by
  apply Nat.eq_of_testBit_eq
  intro i
  rw [Nat.testBit_mod_two_pow]
  by_cases h : i < k
  · simp [hlow i h]
  · simp [h]
theorem and_neg {s k : Nat} (hs : s < 2 ^ 64) (hk : s.testBit k = true) (hlow : ∀ i, i < k → s.testBit i = false) (hk64 : k < 64) : s &&& (2 ^ 64 - s) = 2 ^ k := by
  have h0 : 0 < s := by
    rcases Nat.eq_zero_or_pos s with h | h
    · subst h; simp at hk
    · exact h
  have hd := low_div hlow
  obtain ⟨c, hc⟩ : ∃ c, s = 2 ^ k * c := ⟨s / 2 ^ k, (Nat.mul_div_cancel' (Nat.dvd_of_mod_eq_zero hd)).symm⟩
  have hp : 0 < 2 ^ k := Nat.two_pow_pos k
  have codd : c % 2 = 1 := by
    have : s.testBit k = c.testBit 0 := by rw [hc, Nat.testBit_two_pow_mul]; simp
    rw [this] at hk
    simpa [Nat.testBit_zero] using hk
  obtain ⟨d, rfl⟩ : ∃ d, c = 2 * d + 1 := ⟨c / 2, by omega⟩
  have e1 : s - 1 = 2 ^ k * (2 * d) + (2 ^ k - 1) := by
    rw [hc, Nat.mul_add, Nat.mul_one]
    omega
  have e2 : 2 ^ 64 - s = 2 ^ 64 - ((s - 1) + 1) := by omega
  rw [e2]
  apply Nat.eq_of_testBit_eq
  intro i
  rw [Nat.testBit_and, Nat.testBit_two_pow_sub_succ (by omega), Nat.testBit_two_pow]
  rw [e1, Nat.testBit_two_pow_mul_add _ (by omega)]
  by_cases hik : i < k
  · simp [hlow i hik]; omega
  · rw [if_neg hik]
    have : s.testBit i = (2 * d + 1).testBit (i - k) := by rw [hc, Nat.testBit_two_pow_mul]; simp; omega
    rw [this]
    by_cases e : i = k
    · subst e
      simp [Nat.testBit_zero, hk64]
    · obtain ⟨j, hj⟩ : ∃ j, i - k = j + 1 := ⟨i - k - 1, by omega⟩
      rw [hj, Nat.testBit_succ, Nat.testBit_succ]
      have q1 : (2 * d + 1) / 2 = d := by omega
      have q2 : 2 * d / 2 = d := by omega
      rw [q1, q2]
      have : ¬ k = i := fun h => e h.symm
      simp [this]
      exact fun h _ => h
/-- The library's table. -/
def deB : List Int := [0, 1, 56, 2, 57, 49, 28, 3, 61, 58, 42, 50, 38, 29, 17, 4, 62, 47, 59, 36, 45, 43, 51, 22, 53, 39, 33, 30, 24, 18, 12, 5, 63, 55, 48, 27, 60, 41, 37, 16, 46, 35, 44, 21, 52, 32, 23, 11, 54, 26, 40, 15, 34, 20, 31, 10, 25, 14, 19, 9, 13, 8, 7, 6]
def deIdx (k : Nat) : Nat := 2 ^ k * 285870213051353865 % 18446744073709551616 / 288230376151711744
theorem deB_at : ∀ k : Fin 64, deIdx k.val < 64 ∧ deB.getD (deIdx k.val) 0 = (k.val : Int) := by decide +kernel
theorem bits_neg (s : Nat) (hs : IsSet s) (h0 : 0 < s) : Go.bits .and .u64 (s : Int) (IntKind.u64.wrap (-(s : Int))) = ((2 ^ fst s : Nat) : Int) := by
  have hne := lst_ne hs h0
  have hm := fst_mem hne
  have hb := (mem_lst.1 hm).2
  have e : IntKind.u64.wrap (-(s : Int)) = ((18446744073709551616 - s : Nat) : Int) := by
    unfold IsSet at hs
    rw [IntKind.wrap_u64]; omega
  rw [e, Go.bits_and_u64_nat s _ hs (by omega)]
  have := and_neg (s := s) (k := fst s) (by unfold IsSet at hs; omega) hb (fun i hi => fst_least hi) (fst_lt hne)
  rw [show (18446744073709551616 : Nat) = 2 ^ 64 from by decide, this]
theorem de_idx (k : Nat) : IntKind.u64.wrap (((2 ^ k : Nat) : Int) * 285870213051353865) / 288230376151711744 = ((deIdx k : Nat) : Int) := by
  rw [IntKind.wrap_u64]; unfold deIdx
  generalize 2 ^ k = p
  omega

/-! ### How many bits, as the library counts them -/
def f1 (b : Nat) : Nat := (b / 2 &&& 0x55) + (b &&& 0x55)
def f2 (b : Nat) : Nat := (b / 4 &&& 0x33) + (b &&& 0x33)
def f3 (b : Nat) : Nat := (b / 16 + b) &&& 0x0f
/-! ### The library's steps, as the walk writes them -/
def sA (x : Int) : Int := IntKind.u64.wrap (Go.bits .and .u64 (x / 2) 6148914691236517205 + Go.bits .and .u64 x 6148914691236517205)
def sB (x : Int) : Int := IntKind.u64.wrap (Go.bits .and .u64 (x / 4) 3689348814741910323 + Go.bits .and .u64 x 3689348814741910323)
def sF (x : Int) : Int := IntKind.u64.wrap (x + x / 4294967296)
end Go.Proofs.YtfancjmhdbaoeaaGreatDoor

namespace Go.Proofs.YtfancjmhdbaoeaaGreatDoor
set_option maxRecDepth 100000
open Go.RowKit

/-- The library's table lies in memory. -/
def Tab (w : World) : Prop := ∀ i, i < 64 → w.cell? ⟨1, i, none⟩ = some (.int .u8 (deB.getD i 0))
theorem Tab.pos {w : World} (h : Tab w) : 1 < w.heap.size := by
  have := h 0 (by omega)
  by_cases h0 : 1 < w.heap.size
  · exact h0
  · simp [World.cell?, Array.getElem?_eq_none (Nat.le_of_not_lt h0)] at this
theorem Tab.below {w w' : World} {B : Nat} (h : Tab w) (hb : Below B w w') (hB : 1 < B) : Tab w' :=
  fun i hi => (hb.cell (p := ⟨1, i, none⟩) hB).trans (h i hi)

set_option maxHeartbeats 400000 in
theorem ntz_zero (w : World) :
    Calls Tryz.prog 169 #[.int .u64 0] w fun e w' => e = .returned (.int .i64 64) ∧ w = w' := by
  go_enter Tryz.func169, Tryz.ntmps169
  go_wp2
  go_ret
  exact ⟨rfl, rfl⟩
set_option maxHeartbeats 400000 in
theorem ntz_walk (s p x k : Nat) (w : World) (h0 : 0 < s) (hn : Go.bits .and .u64 (s : Int) (IntKind.u64.wrap (-(s : Int))) = ((p : Nat) : Int))
    (hi : IntKind.u64.wrap ((p : Int) * 285870213051353865) / 288230376151711744 = ((x : Nat) : Int)) (hx : x < 64) (hc : w.cell? ⟨1, x, none⟩ = some (.int .u8 (k : Int))) (hk : k < 64) :
    Calls Tryz.prog 169 #[.int .u64 (s : Int)] w fun e w' => e = .returned (.int .i64 (k : Int)) ∧ w = w' := by
  go_enter Tryz.func169, Tryz.ntmps169
  go_wp2
  go_ret
  exact ⟨rfl, rfl⟩
theorem ntz_pos (s : Nat) (w : World) (hs : IsSet s) (h0 : 0 < s) (ht : Tab w) :
    Calls Tryz.prog 169 #[.int .u64 (s : Int)] w fun e w' => e = .returned (.int .i64 ((fst s : Nat) : Int)) ∧ w = w' := by
  have hlt := fst_lt (lst_ne hs h0)
  obtain ⟨hd1, hd2⟩ := deB_at ⟨fst s, hlt⟩
  simp only at hd1 hd2
  have hc := ht _ hd1
  rw [hd2] at hc
  exact ntz_walk s (2 ^ fst s) (deIdx (fst s)) (fst s) w h0 (bits_neg s hs h0) (de_idx (fst s)) hd1 hc hlt
theorem first_any (s : Nat) (w : World) (hs : IsSet s) (ht : Tab w) :
    Calls Tryz.prog 162 #[.int .u64 (s : Int)] w fun e w' => e = .returned (.int .i64 ((fst s : Nat) : Int)) ∧ w = w' := by
  have hz : Calls Tryz.prog 169 #[.int .u64 (s : Int)] w fun e w' => e = .returned (.int .i64 ((fst s : Nat) : Int)) ∧ w = w' := by
    rcases Nat.eq_zero_or_pos s with h | h
    · subst h; exact ntz_zero w
    · exact ntz_pos s w hs h ht
  have H := Lib.hid hz
  clear hz
  go_enter Tryz.func162, Tryz.ntmps162
  go_wp2_with (go_at_call 169; refine (H.out).mono ?_; rintro e w' ⟨rfl, rfl⟩)
  go_ret
  exact ⟨rfl, rfl⟩

/-- Are all numbers of a set in another one? -/
def inB (s t : Nat) : Bool := (s ^^^ (s &&& t)) == 0
theorem bits_in (s t : Nat) (hs : IsSet s) (ht : IsSet t) : (Go.bits .andNot .u64 (s : Int) (t : Int) == 0) = inB s t := by
  rw [bits_andNot_u64_nat s t hs ht, inB, Bool.eq_iff_iff]; simp
set_option maxHeartbeats 400000 in
theorem within_any (s t : Nat) (w : World) (hs : IsSet s) (ht : IsSet t) :
    Calls Tryz.prog 93 #[.int .u64 (s : Int), .int .u64 (t : Int)] w fun e w' => e = .returned (.bool (inB s t)) ∧ w = w' := by
  have H := Lib.hid (bits_in s t hs ht)
  clear hs ht
  go_enter Tryz.func93, Tryz.ntmps93
  go_wp2
  go_ret
  exact ⟨ret_b H.out, rfl⟩

end Go.Proofs.YtfancjmhdbaoeaaGreatDoor

namespace Go.Proofs.YtfancjmhdbaoeaaGreatDoor
set_option maxRecDepth 100000
open Go.ChangeShapes Go.WideShapes Go.ChangeAt Go.RowKit

theorem gTab : Tryz.prog.globalNamed "math/bits.deBruijn64tab" = some 1 := by kernel_rfl
theorem gTabType : (Tryz.prog.globals[1]?).map (·.type) = some 188 := by kernel_rfl
theorem cellsTab : Tryz.prog.cellsOf 188 = 64 := by kernel_rfl
theorem cellsU8 : Tryz.prog.cellsOf 5 = 1 := by kernel_rfl
theorem tab_of {W : World} (h : laidMetH Tryz.prog [("math/bits.deBruijn64tab", Rows.laid_math_bits_deBruijn64tab)] W) : Tab W := by
  have ht : Lib.TabIs Tryz.prog W "math/bits.deBruijn64tab" .u8 deB :=
    Lib.tabIs_of_head (rest := []) gTab gTabType Tryz.underlying188 Tryz.underlying5 cellsU8 cellsTab h
  intro i hi
  exact ht.cell gTab i hi
/-- A world in which the table holds what its initialiser lays. -/
noncomputable def laidWorld (os : Os) : World :=
  { World.holding Tryz.prog os ⟨#[], #[], []⟩ with heap := (World.holding Tryz.prog os ⟨#[], #[], []⟩).heap.modify 1 fun
      | .cells _ t frozen => .cells (deB.map (Value.int .u8)).toArray t frozen
      | o => o }
end Go.Proofs.YtfancjmhdbaoeaaGreatDoor

namespace Go.Proofs.YtfancjmhdbaoeaaGreatDoor
set_option maxRecDepth 100000
open Go.RowKit

/-- The slice v has n elements of 'size' cells each, which are cs. -/
def Row (w : World) (v : Value) (n size : Nat) (cs : List Value) : Prop :=
  cs.length = n * size ∧ ∃ ao cap, v = .slice ao n cap ∧ (n ≤ cap ∧ cap ≤ maxLen) ∧ (ao = none → n = 0 ∧ cap = 0) ∧ (0 < n → ∃ b off, ao = some ⟨b, off, none⟩ ∧ ∀ i, i < n * size → w.cell? ⟨b, off + i, none⟩ = cs[i]?)
/-- The slice v holds these ints. -/
def Ints (w : World) (v : Value) (xs : List Int) : Prop := Row w v xs.length 1 (xs.map (Value.int .i64))

theorem block_lt {w : World} {a : Addr} {v : Value} (h : w.cell? a = some v) : a.block < w.heap.size := by
  by_cases h0 : a.block < w.heap.size
  · exact h0
  · simp [World.cell?, Array.getElem?_eq_none (Nat.le_of_not_lt h0)] at h
theorem Row.below {w w' : World} {v : Value} {n size : Nat} {cs : List Value} (h : Row w v n size cs) (hb : Below w.heap.size w w') : Row w' v n size cs := by
  obtain ⟨hl, ao, cap, rfl, hm, hno, hc⟩ := h
  refine ⟨hl, ao, cap, rfl, hm, hno, fun hn => ?_⟩
  obtain ⟨b, off, rfl, hcell⟩ := hc hn
  refine ⟨b, off, rfl, fun i hi => ?_⟩
  have h1 := hcell i hi
  have h2 : cs[i]? = some cs[i] := List.getElem?_eq_getElem (by omega)
  rw [h2] at h1
  have hlt := block_lt h1
  rw [hb.cell (p := ⟨b, off + i, none⟩) hlt, h1, h2]
theorem Ints.below {w w' : World} {v : Value} {xs : List Int} (h : Ints w v xs) (hb : Below w.heap.size w w') : Ints w' v xs := Row.below h hb
theorem Row.drewN {w : World} {v : Value} {n size : Nat} {cs : List Value} (h : Row w v n size cs) (k : Nat) : Row (w.drewN k) v n size cs := h.below (below_drewN (Below.refl _ _) k)
theorem Row.of_owns {w : World} {base : Nat} {e : TypeId} {size : Nat} {v : Value} {n : Nat} {cs : List Value} (h : w.ownsRow base e size v n cs) : Row w v n size cs := by
  obtain ⟨hl, h⟩ := h
  refine ⟨hl, ?_⟩
  rcases h with ⟨rfl, rfl⟩ | ⟨g, cap, cur, rfl, hb, hh, hn, hm, hs, ht⟩
  · exact ⟨none, 0, rfl, by simp, fun _ => ⟨rfl, rfl⟩, fun h => by omega⟩
  · refine ⟨some ⟨g, 0, none⟩, cap, rfl, by omega, fun h => (by cases h), fun _ => ⟨g, 0, rfl, fun i hi => ?_⟩⟩
    have hown : w.ownsRow base e size (.slice (some ⟨g, 0, none⟩) n cap) n cs := ⟨hl, .inr ⟨g, cap, cur, rfl, hb, hh, hn, hm, hs, ht⟩⟩
    have := hown.cellAt i hi
    simpa using this
theorem Ints.of_owns {w : World} {base : Nat} {e : TypeId} {v : Value} {n : Nat} {xs : List Int} (h : w.ownsRow base e 1 v n (xs.map (Value.int .i64))) : Ints w v xs := by
  have hr := Row.of_owns h
  have hn : n = xs.length := by have := h.1; simp at this; omega
  subst hn; exact hr
theorem Ints.form {w : World} {v : Value} {xs : List Int} (h : Ints w v xs) : ∃ ao cap, v = .slice ao xs.length cap ∧ xs.length ≤ 9223372036854775807 := by
  obtain ⟨_, ao, cap, rfl, hm, _, _⟩ := h
  exact ⟨ao, cap, rfl, Nat.le_trans hm.1 hm.2⟩
theorem Ints.at {w : World} {ao : Option Addr} {n cap : Nat} {xs : List Int} (h : Ints w (.slice ao n cap) xs) {k : Nat} (hk : k < xs.length) :
    ∃ b off, ao = some ⟨b, off, none⟩ ∧ w.cell? ⟨b, off + k, none⟩ = some (.int .i64 xs[k]) := by
  obtain ⟨_, ao', cap', he, hm, _, hc⟩ := h
  obtain ⟨rfl, _, _⟩ : ao = ao' ∧ n = xs.length ∧ cap = cap' := by simpa using he
  obtain ⟨b, off, rfl, hcell⟩ := hc (by omega)
  refine ⟨b, off, rfl, ?_⟩
  rw [hcell k (by omega)]
  simp [List.getElem?_eq_getElem hk]
theorem owns_below {w w' : World} {base : Nat} {e : TypeId} {size : Nat} {v : Value} {n : Nat} {cs : List Value} (h : w.ownsRow base e size v n cs) (hb : Below w.heap.size w w') : w'.ownsRow base e size v n cs :=
  h.kept (row := none) ⟨hb.os, hb.tape, hb.output, hb.size, fun k hk _ => hb.block k hk⟩ (by cases v.ownBlock <;> simp)
/-- 'append(own, x...)', x any slice whose cells are known, nil included. -/
theorem wpList_append_row {P : Program} {w : World} {ops : Array Oper} {rest : List Oper} {o : Oper} {a : Act} {Q : Exit → Act → World → Prop} (hgd : o.guard = none) (s x : Operand) (t : TypeId)
    (ho : o.op = .call { callee := .builtin .append, args := #[s, x], argTypes := #[t, t] })
    (base : Nat) (e : TypeId) (i : TypeInfo) (z : Value) (size bytes : Nat) (ht : P.underlying t = some (.slice e)) (hi : P.info? e = some i) (hz : i.zero = some z)
    (hsize : i.size = size) (hby : i.bytes = bytes) (hzs : z.cells.size = size) (hsz : 0 < size)
    (v : Value) (n : Nat) (xs : List Value) (hs : a.eval s = v) (hown : w.ownsRow base e size v n xs)
    (sv : Value) (m : Nat) (news : List Value) (hx : a.eval x = sv) (hsrc : Row w sv m size news) (h1 : ∀ u ∈ news, u.oneCell' = true)
    (h63 : n + m ≤ maxLen) (hbytes : (n + m) * bytes ≤ 140737488355328) (hbase : base ≤ w.heap.size)
    (h : ∀ v' w', w'.ownsRow base e size v' (n + m) (xs ++ news) → w.grownBy w' v.ownBlock → wpList P ops Q rest (a.put o.dst v') w') : wpList P ops Q (o :: rest) a w := by
  obtain ⟨hl, ao, cap, rfl, _, hno, hc⟩ := hsrc
  cases ao with
  | none =>
    obtain ⟨rfl, rfl⟩ := hno rfl
    have hnews : news = [] := List.eq_nil_of_length_eq_zero (by simpa using hl)
    subst hnews
    exact wpList_append_own_none hgd s x t ho base e i size ht hi v n xs hs hown hx (by simpa using h v w (by simpa using hown) (World.grownBy.refl _ _))
  | some ad =>
    refine wpList_append_own w hgd s x t ho base e i z size bytes ht hi hz hsize hby hzs hsz v n xs hs hown ad m cap news hx hl ?_ h1 h63 hbytes hbase (fun v' w' h2 h3 _ => h v' w' h2 h3)
    intro j u hu
    have hj : j < news.length := (List.getElem?_eq_some_iff.1 hu).1
    have hm : 0 < m := by
      rcases Nat.eq_zero_or_pos m with h0 | h0
      · subst h0; rw [Nat.zero_mul] at hl; omega
      · exact h0
    obtain ⟨b, off, he, hcell⟩ := hc hm
    obtain rfl := Option.some.inj he
    rw [Addr.add_lit, hcell j (by omega), hu]
end Go.Proofs.YtfancjmhdbaoeaaGreatDoor

namespace Go.Proofs.YtfancjmhdbaoeaaGreatDoor
set_option maxRecDepth 100000
open Go.RowKit

def IntOk (n : Int) : Prop := -9223372036854775808 ≤ n ∧ n ≤ 9223372036854775807
structure OpV where
  wr : Bool
  key : Int
  val : Int
def OpV.v (o : OpV) : Value := .agg #[.bool o.wr, .int .i64 o.key, .int .i64 o.val]
def OpV.ok (o : OpV) : Prop := IntOk o.key ∧ IntOk o.val
def opZ : OpV := ⟨false, 0, 0⟩
/-- May there be such an operation? -/
def mayO (o : OpV) : Bool := (decide (0 ≤ o.key) && decide (o.key < 64)) && (decide (0 ≤ o.val) && decide (o.val ≤ 2147483647)) && (!o.wr || o.val != 0)
theorem mayO_iff (o : OpV) : mayO o = true ↔ (0 ≤ o.key ∧ o.key < 64) ∧ (0 ≤ o.val ∧ o.val ≤ 2147483647) ∧ (o.wr = true → o.val ≠ 0) := by
  obtain ⟨wr, key, val⟩ := o
  unfold mayO
  cases wr <;> simp [and_assoc]
theorem box_below (w : World) (o : Obj) : Below w.heap.size w (w.alloc o) := (Below.refl _ _).alloc (Nat.le_refl _) _
set_option maxHeartbeats 1000000 in
theorem right_any (wr : Bool) (key val : Int) (w : World) :
    Calls Tryz.prog 164 #[.agg #[.bool wr, .int .i64 key, .int .i64 val]] w fun e w' => e = .returned (.bool (mayO ⟨wr, key, val⟩)) ∧ Below w.heap.size w w' := by
  have hi := mayO_iff ⟨wr, key, val⟩
  by_cases h : mayO ⟨wr, key, val⟩ = true
  · obtain ⟨⟨h1, h2⟩, ⟨h3, h4⟩, h5⟩ := hi.1 h
    have HM := Lib.hid h
    have c1 : ¬ key < 0 := by simpa using h1
    have c2 : ¬ (64 : Int) ≤ key := by simp at h2; omega
    have c3 : ¬ val < 0 := by simpa using h3
    have c4 : ¬ (2147483647 : Int) < val := by simp at h4; omega
    simp only at h1 h2 h3 h4 h5
    clear h hi
    cases wr
    · clear h5
      go_enter Tryz.func164, Tryz.ntmps164
      go_wp2_with fail
      go_ret
      exact ⟨ret_b HM.out.symm, box_below _ _⟩
    · have c5 : (val != 0) = true := by rw [bne_iff_ne]; exact h5 rfl
      clear h5
      go_enter Tryz.func164, Tryz.ntmps164
      go_wp2_with fail
      go_ret
      exact ⟨ret_b HM.out.symm, box_below _ _⟩
  · have HM : Hid (mayO ⟨wr, key, val⟩ = false) := Lib.hid (by simpa using h)
    have hn : ¬ ((0 ≤ key ∧ key < 64) ∧ (0 ≤ val ∧ val ≤ 2147483647) ∧ (wr = true → val ≠ 0)) := fun k => h (hi.2 k)
    clear h hi
    by_cases c1 : key < 0
    · go_enter Tryz.func164, Tryz.ntmps164
      clear hn
      go_wp2_with fail
      go_ret
      exact ⟨ret_b HM.out.symm, box_below _ _⟩
    by_cases c2 : (64 : Int) ≤ key
    · clear hn
      go_enter Tryz.func164, Tryz.ntmps164
      go_wp2_with fail
      go_ret
      exact ⟨ret_b HM.out.symm, box_below _ _⟩
    by_cases c3 : val < 0
    · clear hn
      go_enter Tryz.func164, Tryz.ntmps164
      go_wp2_with fail
      go_ret
      exact ⟨ret_b HM.out.symm, box_below _ _⟩
    by_cases c4 : (2147483647 : Int) < val
    · clear hn
      go_enter Tryz.func164, Tryz.ntmps164
      go_wp2_with fail
      go_ret
      exact ⟨ret_b HM.out.symm, box_below _ _⟩
    cases wr
    · exfalso; apply hn; exact ⟨⟨by omega, by omega⟩, ⟨by omega, by omega⟩, fun h => by cases h⟩
    · have hv : val = 0 := by
        by_cases h : val = 0
        · exact h
        · exfalso; apply hn; exact ⟨⟨by omega, by omega⟩, ⟨by omega, by omega⟩, fun _ => h⟩
      subst hv
      clear hn
      go_enter Tryz.func164, Tryz.ntmps164
      go_wp2_with fail
      go_ret
      exact ⟨ret_b HM.out.symm, box_below _ _⟩
set_option maxHeartbeats 1000000 in
theorem read_any (key val : Int) (w : World) :
    Calls Tryz.prog 80 #[.int .i64 key, .int .i64 val] w fun e w' => e = .returned (.agg #[.bool false, .int .i64 key, .int .i64 val]) ∧ Below w.heap.size w w' := by
  go_enter Tryz.func80, Tryz.ntmps80
  go_wp2_with fail
  refine bodyPost_ret (v := .agg #[.bool false, .int .i64 key, .int .i64 val]) (by simp [results, Tryz.results80, go_sem]) rfl ⟨rfl, ?_⟩
  exact box_below _ _
set_option maxHeartbeats 1000000 in
theorem write_op (key val : Int) (w : World) :
    Calls Tryz.prog 42 #[.int .i64 key, .int .i64 val] w fun e w' => e = .returned (.agg #[.bool true, .int .i64 key, .int .i64 val]) ∧ Below w.heap.size w w' := by
  go_enter Tryz.func42, Tryz.ntmps42
  go_wp2_with fail
  refine bodyPost_ret (v := .agg #[.bool true, .int .i64 key, .int .i64 val]) (by simp [results, Tryz.results42, go_sem]) rfl ⟨rfl, ?_⟩
  exact box_below _ _
/-- Behind a region: what calls one behind the other leave alone. -/
theorem below_then {w0 w1 w2 : World} (h : Below w0.heap.size w0 w1) (k : Below w1.heap.size w1 w2) : Below w0.heap.size w0 w2 := h.trans (k.mono h.size)
theorem opBlock (w : World) (x y z : Value) (t : TypeId) : (w.alloc (.cells #[x, y, z] t)).cell? ⟨w.heap.size, 0, none⟩ = some x ∧ (w.alloc (.cells #[x, y, z] t)).cell? ⟨w.heap.size, 1, none⟩ = some y ∧ (w.alloc (.cells #[x, y, z] t)).cell? ⟨w.heap.size, 2, none⟩ = some z := by
  refine ⟨?_, ?_, ?_⟩ <;> simp
/-- The cells of operations in a row. -/
def opV (l : List OpV) : List Value := l.flatMap fun o => [.bool o.wr, .int .i64 o.key, .int .i64 o.val]
theorem opV_len (l : List OpV) : (opV l).length = l.length * 3 := by
  induction l with
  | nil => rfl
  | cons a l ih => unfold opV at *; rw [List.flatMap_cons, List.length_append, ih]; simp; omega
theorem opV_at : ∀ (l : List OpV) (k : Nat) (hk : k < l.length), (opV l)[k * 3]? = some (.bool l[k].wr) ∧ (opV l)[k * 3 + 1]? = some (.int .i64 l[k].key) ∧ (opV l)[k * 3 + 2]? = some (.int .i64 l[k].val)
  | a :: l, 0, _ => ⟨rfl, rfl, rfl⟩
  | a :: l, k + 1, hk => by
    obtain ⟨h0, h1, h2⟩ := opV_at l k (by simpa using hk)
    have e : ∀ j, (opV (a :: l))[(k + 1) * 3 + j]? = (opV l)[k * 3 + j]? := fun j => by
      unfold opV
      rw [List.flatMap_cons, show (k + 1) * 3 + j = 3 + (k * 3 + j) from by omega]
      rw [List.getElem?_append_right (by simp)]
      simp
    exact ⟨(e 0).trans h0, (e 1).trans h1, (e 2).trans h2⟩
/-- The slice v holds these operations. -/
def Ops (w : World) (v : Value) (l : List OpV) : Prop := Row w v l.length 3 (opV l)
theorem Ops.below {w w' : World} {v : Value} {l : List OpV} (h : Ops w v l) (hb : Below w.heap.size w w') : Ops w' v l := Row.below h hb
theorem Ops.form {w : World} {v : Value} {l : List OpV} (h : Ops w v l) : ∃ ao cap, v = .slice ao l.length cap ∧ l.length ≤ 9223372036854775807 := by
  obtain ⟨_, ao, cap, rfl, hm, _, _⟩ := h
  exact ⟨ao, cap, rfl, Nat.le_trans hm.1 hm.2⟩
theorem Ops.at {w : World} {ao : Option Addr} {n cap : Nat} {l : List OpV} (h : Ops w (.slice ao n cap) l) {k : Nat} (hk : k < l.length) :
    ∃ b off, ao = some ⟨b, off, none⟩ ∧ w.cell? ⟨b, off + k * 3, none⟩ = some (.bool l[k].wr) ∧ w.cell? ⟨b, off + k * 3 + 1, none⟩ = some (.int .i64 l[k].key) ∧ w.cell? ⟨b, off + k * 3 + 2, none⟩ = some (.int .i64 l[k].val) := by
  obtain ⟨_, ao', cap', he, hm, _, hc⟩ := h
  obtain ⟨rfl, _, _⟩ : ao = ao' ∧ n = l.length ∧ cap = cap' := by simpa using he
  obtain ⟨b, off, rfl, hcell⟩ := hc (by omega)
  obtain ⟨h0, h1, h2⟩ := opV_at l k hk
  refine ⟨b, off, rfl, ?_, ?_, ?_⟩
  · rw [hcell (k * 3) (by omega), h0]
  · rw [Nat.add_assoc, hcell (k * 3 + 1) (by omega), h1]
  · rw [Nat.add_assoc, hcell (k * 3 + 2) (by omega), h2]
def allM (l : List OpV) : Bool := l.all mayO
theorem allM_succ (l : List OpV) (k : Nat) (hk : k < l.length) : allM (l.take (k + 1)) = (allM (l.take k) && mayO l[k]) := by
  unfold allM; rw [List.take_succ_eq_append_getElem hk, List.all_append]; simp
theorem allM_no (l : List OpV) (k : Nat) (hk : k < l.length) (h : mayO l[k] = false) : allM l = false := by
  unfold allM; exact List.all_eq_false.2 ⟨l[k], List.getElem_mem hk, by simp [h]⟩
/-- Three cells of one block are written anew. -/
theorem put_three {w1 : World} {g : Nat} {x0 x1 x2 : Value} (v0 v1 v2 : Value) (c0 : w1.cell? ⟨g, 0, none⟩ = some x0) (c1 : w1.cell? ⟨g, 1, none⟩ = some x1) (c2 : w1.cell? ⟨g, 2, none⟩ = some x2) :
    (((w1.setCell ⟨g, 0, none⟩ v0).setCell ⟨g, 1, none⟩ v1).setCell ⟨g, 2, none⟩ v2).cell? ⟨g, 0, none⟩ = some v0 ∧
    (((w1.setCell ⟨g, 0, none⟩ v0).setCell ⟨g, 1, none⟩ v1).setCell ⟨g, 2, none⟩ v2).cell? ⟨g, 1, none⟩ = some v1 ∧
    (((w1.setCell ⟨g, 0, none⟩ v0).setCell ⟨g, 1, none⟩ v1).setCell ⟨g, 2, none⟩ v2).cell? ⟨g, 2, none⟩ = some v2 := by
  have n01 : (⟨g, 0, none⟩ : Addr) ≠ ⟨g, 1, none⟩ := by simp
  have n02 : (⟨g, 0, none⟩ : Addr) ≠ ⟨g, 2, none⟩ := by simp
  have n12 : (⟨g, 1, none⟩ : Addr) ≠ ⟨g, 2, none⟩ := by simp
  refine ⟨?_, ?_, ?_⟩
  · rw [World.cell?_setCell_other _ _ _ _ n02.symm, World.cell?_setCell_other _ _ _ _ n01.symm]
    exact World.cell?_setCell_same _ _ _ c0
  · rw [World.cell?_setCell_other _ _ _ _ n12.symm]
    exact World.cell?_setCell_same _ _ _ ((World.cell?_setCell_other _ _ _ _ n01).trans c1)
  · exact World.cell?_setCell_same _ _ _ ((World.cell?_setCell_other _ _ _ _ n12).trans ((World.cell?_setCell_other _ _ _ _ n02).trans c2))
theorem below_three {B : Nat} {w w1 : World} {g : Nat} (v0 v1 v2 : Value) (hb : Below B w w1) (hg : B ≤ g) :
    Below B w (((w1.setCell ⟨g, 0, none⟩ v0).setCell ⟨g, 1, none⟩ v1).setCell ⟨g, 2, none⟩ v2) :=
  ((hb.setCell (p := ⟨g, 0, none⟩) hg v0).setCell (p := ⟨g, 1, none⟩) hg v1).setCell (p := ⟨g, 2, none⟩) hg v2
/-- What a block of an operation that the call made holds, behind calls that leave it alone. -/
theorem op_cells {w w1 : World} {x y z : Value} {t : TypeId} (hb : Below (w.heap.size + 1) (w.alloc (.cells #[x, y, z] t)) w1) :
    (w1.cell? ⟨w.heap.size, 0, none⟩ = some x ∧ w1.cell? ⟨w.heap.size, 1, none⟩ = some y ∧ w1.cell? ⟨w.heap.size, 2, none⟩ = some z) ∧
    (w1.frozen? ⟨w.heap.size, 0, none⟩ = false ∧ w1.frozen? ⟨w.heap.size, 1, none⟩ = false ∧ w1.frozen? ⟨w.heap.size, 2, none⟩ = false) := by
  have c0 := hb.cell (p := ⟨w.heap.size, 0, none⟩) (by simp)
  have c1 := hb.cell (p := ⟨w.heap.size, 1, none⟩) (by simp)
  have c2 := hb.cell (p := ⟨w.heap.size, 2, none⟩) (by simp)
  have f0 := hb.frozen (p := ⟨w.heap.size, 0, none⟩) (by simp)
  have f1 := hb.frozen (p := ⟨w.heap.size, 1, none⟩) (by simp)
  have f2 := hb.frozen (p := ⟨w.heap.size, 2, none⟩) (by simp)
  simp at c0 c1 c2 f0 f1 f2
  exact ⟨⟨c0, c1, c2⟩, f0, f1, f2⟩
end Go.Proofs.YtfancjmhdbaoeaaGreatDoor

namespace Go.Proofs.YtfancjmhdbaoeaaGreatDoor
set_option maxRecDepth 100000
open Go.ChangeShapes Go.WideShapes Go.ChangeAt Go.RowKit Go.Deep

theorem cellsOp : Tryz.prog.cellsOf 87 = 3 := by kernel_rfl
theorem ops_of_cells {H : Type} {enc : TypeId × Value → H} {W : World} {v : Value} {fuel : Nat} {x : DataW H × List MemPlace}
    (hf : DataW.trod enc Tryz.prog W 0 (fun _ => true) true fuel 89 [v] = some x) : ∃ l, Ops W v l ∧ (∀ o ∈ l, o.ok) ∧ ((∀ n ∈ DataW.weights Tryz.prog 89 x.1, n ≤ reachBytes) → l.length ≤ 6000000000000) := by
  rcases open_slice Tryz.underlying89 hf with ⟨hcs, _⟩ | ⟨a, len, cap, m, n, D, Pl, hcs, _, hl, hm, hmm, hx, hi⟩
  · obtain rfl : v = .slice none 0 0 := by simpa using hcs
    exact ⟨[], ⟨rfl, none, 0, rfl, by simp, (fun _ => ⟨rfl, rfl⟩), (fun h => by simp at h)⟩, by simp, by simp⟩
  · obtain rfl : v = .slice (some a) len cap := by simpa using hcs
    simp only [if_true] at hmm
    have key : ∀ i, ∃ o : OpV, i < len → o.ok ∧ W.cell? ((a.add (i * 3)).add 0) = some (.bool o.wr) ∧ W.cell? ((a.add (i * 3)).add 1) = some (.int .i64 o.key) ∧ W.cell? ((a.add (i * 3)).add 2) = some (.int .i64 o.val) := fun i => by
      by_cases hlt : i < len
      · obtain ⟨cs', hc, ht⟩ := hi i (by omega)
        rw [cellsOp] at hc
        obtain ⟨_, hcl, hat⟩ := World.cells?_some hc
        obtain ⟨y0, y1, y2, n', _, _, h0, h1, h2⟩ := trod_struct3 Tryz.underlying87 ht
        match cs', hcl with
        | [x0, x1, x2], _ =>
          obtain ⟨b, e0, _⟩ := DataW.trod_bool Tryz.underlying4 h0
          obtain ⟨k, e1, _, w1⟩ := DataW.trod_int Tryz.underlying3 h1
          obtain ⟨z, e2, _, w2⟩ := DataW.trod_int Tryz.underlying3 h2
          have k0 : Tryz.prog.cellsOf 4 = 1 := by kernel_rfl
          have k1 : Tryz.prog.cellsOf 3 = 1 := by kernel_rfl
          simp [k0, k1] at e0 e1 e2
          subst e0; subst e1; subst e2
          exact ⟨⟨b, k, z⟩, fun _ => ⟨⟨bounds_i64 w1, bounds_i64 w2⟩, hat 0 (by omega), hat 1 (by omega), hat 2 (by omega)⟩⟩
      · exact ⟨opZ, fun h => absurd h hlt⟩
    obtain ⟨O, hO⟩ := Classical.skolem.1 key
    have hlen : ((List.range len).map O).length = len := by simp
    have hel : ∀ (i : Nat) (h : i < ((List.range len).map O).length), ((List.range len).map O)[i] = O i := fun i h => by simp
    refine ⟨(List.range len).map O, ?_, ?_, ?_⟩
    · generalize (List.range len).map O = l at *
      subst hlen
      refine ⟨opV_len l, some a, cap, rfl, ⟨hl, hm⟩, (fun h => by cases h), fun hn => ?_⟩
      obtain ⟨b, off, spot⟩ := a
      have hspot : spot = none := by
        have := (hO 0 hn).2.1
        simpa [Addr.add] using World.cell?_spot this
      subst hspot
      refine ⟨b, off, rfl, fun i hii => ?_⟩
      have hk : i / 3 < l.length := by omega
      obtain ⟨_, c0, c1, c2⟩ := hO (i / 3) hk
      simp only [Addr.add_lit] at c0 c1 c2
      obtain ⟨e0, e1, e2⟩ := opV_at l (i / 3) hk
      rw [hel _ hk] at e0 e1 e2
      have hm3 : i % 3 = 0 ∨ i % 3 = 1 ∨ i % 3 = 2 := by omega
      rcases hm3 with h | h | h
      · rw [show i = i / 3 * 3 from by omega, e0, ← c0]; rfl
      · rw [show i = i / 3 * 3 + 1 from by omega, e1, ← c1, ← Nat.add_assoc]
      · rw [show i = i / 3 * 3 + 2 from by omega, e2, ← c2, ← Nat.add_assoc]
    · intro o ho
      obtain ⟨i, hi2, rfl⟩ := List.mem_map.1 ho
      exact (hO i (List.mem_range.1 hi2)).1
    · intro hw
      rw [hlen]
      have hb24 : Tryz.prog.bytesOf 87 = 24 := by kernel_rfl
      have := hw ((((List.range len).map D).length + ((List.range (m - len)).map fun j => D (len + j)).length) * Tryz.prog.bytesOf 87) (by rw [hx]; simp [DataW.weights, Tryz.underlying89])
      rw [hb24] at this
      unfold reachBytes at this
      simp at this
      omega
end Go.Proofs.YtfancjmhdbaoeaaGreatDoor

namespace Go.Proofs.YtfancjmhdbaoeaaGreatDoor
set_option maxRecDepth 100000
open Go.RowKit

/-- A transaction: its numbers, its slice of operations, and what that holds. -/
structure TxnV where
  s : Int
  b : Int
  c : Int
  v : Value
  l : List OpV
def TxnV.ok (t : TxnV) : Prop := (IntOk t.s ∧ IntOk t.b ∧ IntOk t.c) ∧ ∀ o ∈ t.l, o.ok
def txV (h : List TxnV) : List Value := h.flatMap fun t => [.int .i64 t.s, .int .i64 t.b, .int .i64 t.c, t.v]
theorem txV_len (h : List TxnV) : (txV h).length = h.length * 4 := by
  induction h with
  | nil => rfl
  | cons a l ih => unfold txV at *; rw [List.flatMap_cons, List.length_append, ih]; simp; omega
theorem txV_at : ∀ (l : List TxnV) (k : Nat) (hk : k < l.length), (txV l)[k * 4]? = some (.int .i64 l[k].s) ∧ (txV l)[k * 4 + 1]? = some (.int .i64 l[k].b) ∧ (txV l)[k * 4 + 2]? = some (.int .i64 l[k].c) ∧ (txV l)[k * 4 + 3]? = some l[k].v
  | a :: l, 0, _ => ⟨rfl, rfl, rfl, rfl⟩
  | a :: l, k + 1, hk => by
    obtain ⟨h0, h1, h2, h3⟩ := txV_at l k (by simpa using hk)
    have e : ∀ j, (txV (a :: l))[(k + 1) * 4 + j]? = (txV l)[k * 4 + j]? := fun j => by
      unfold txV
      rw [List.flatMap_cons, show (k + 1) * 4 + j = 4 + (k * 4 + j) from by omega]
      rw [List.getElem?_append_right (by simp)]
      simp
    exact ⟨(e 0).trans h0, (e 1).trans h1, (e 2).trans h2, (e 3).trans h3⟩
/-- The slice v holds these transactions. -/
def Txns (w : World) (v : Value) (h : List TxnV) : Prop := Row w v h.length 4 (txV h) ∧ ∀ t ∈ h, Ops w t.v t.l
theorem Txns.below {w w' : World} {v : Value} {h : List TxnV} (hT : Txns w v h) (hb : Below w.heap.size w w') : Txns w' v h := ⟨Row.below hT.1 hb, fun t ht => (hT.2 t ht).below hb⟩
theorem Txns.form {w : World} {v : Value} {l : List TxnV} (h : Txns w v l) : ∃ ao cap, v = .slice ao l.length cap ∧ l.length ≤ 9223372036854775807 := by
  obtain ⟨⟨_, ao, cap, rfl, hm, _, _⟩, _⟩ := h
  exact ⟨ao, cap, rfl, Nat.le_trans hm.1 hm.2⟩
theorem Txns.at {w : World} {ao : Option Addr} {n cap : Nat} {l : List TxnV} (h : Txns w (.slice ao n cap) l) {k : Nat} (hk : k < l.length) :
    ∃ b off, ao = some ⟨b, off, none⟩ ∧ w.cell? ⟨b, off + k * 4, none⟩ = some (.int .i64 l[k].s) ∧ w.cell? ⟨b, off + k * 4 + 1, none⟩ = some (.int .i64 l[k].b) ∧ w.cell? ⟨b, off + k * 4 + 2, none⟩ = some (.int .i64 l[k].c) ∧ w.cell? ⟨b, off + k * 4 + 3, none⟩ = some l[k].v := by
  obtain ⟨⟨_, ao', cap', he, hm, _, hc⟩, _⟩ := h
  obtain ⟨rfl, _, _⟩ : ao = ao' ∧ n = l.length ∧ cap = cap' := by simpa using he
  obtain ⟨b, off, rfl, hcell⟩ := hc (by omega)
  obtain ⟨h0, h1, h2, h3⟩ := txV_at l k hk
  refine ⟨b, off, rfl, ?_, ?_, ?_, ?_⟩
  · rw [hcell (k * 4) (by omega), h0]
  · rw [Nat.add_assoc, hcell (k * 4 + 1) (by omega), h1]
  · rw [Nat.add_assoc, hcell (k * 4 + 2) (by omega), h2]
  · rw [Nat.add_assoc, hcell (k * 4 + 3) (by omega), h3]
theorem Txns.ops {w : World} {v : Value} {l : List TxnV} (h : Txns w v l) {k : Nat} (hk : k < l.length) : Ops w l[k].v l[k].l := h.2 _ (List.getElem_mem hk)
end Go.Proofs.YtfancjmhdbaoeaaGreatDoor

namespace Go.Proofs.YtfancjmhdbaoeaaGreatDoor
set_option maxRecDepth 100000
open Go.ChangeShapes Go.WideShapes Go.ChangeAt Go.RowKit Go.Deep

theorem cellsTxn : Tryz.prog.cellsOf 91 = 4 := by kernel_rfl
theorem weightsAll_mem {H : Type} {P : Program} {e : TypeId} {d : DataW H} {n : Nat} (hn : n ∈ d.weights P e) : ∀ {ds : List (DataW H)}, d ∈ ds → n ∈ DataW.weightsAll P e ds
  | a :: ds, h => by
    unfold DataW.weightsAll
    rcases List.mem_cons.1 h with rfl | h
    · exact List.mem_append_left _ hn
    · exact List.mem_append_right _ (weightsAll_mem hn h)
end Go.Proofs.YtfancjmhdbaoeaaGreatDoor

namespace Go.Proofs.YtfancjmhdbaoeaaGreatDoor
set_option maxRecDepth 100000
open Go.ChangeShapes Go.WideShapes Go.ChangeAt Go.RowKit Go.Deep

theorem txns_of_cells {H : Type} {enc : TypeId × Value → H} {W : World} {v : Value} {fuel : Nat} {x : DataW H × List MemPlace}
    (hf : DataW.trod enc Tryz.prog W 0 (fun _ => true) true fuel 22 [v] = some x) (hwt : ∀ n ∈ DataW.weights Tryz.prog 22 x.1, n ≤ reachBytes) : ∃ l, Txns W v l ∧ (∀ t ∈ l, t.ok) ∧ ∀ t ∈ l, t.l.length ≤ 6000000000000 := by
  rcases open_slice Tryz.underlying22 hf with ⟨hcs, _⟩ | ⟨a, len, cap, m, n, D, Pl, hcs, _, hl, hm, hmm, hx, hi⟩
  · obtain rfl : v = .slice none 0 0 := by simpa using hcs
    exact ⟨[], ⟨⟨rfl, none, 0, rfl, by simp, (fun _ => ⟨rfl, rfl⟩), (fun h => by simp at h)⟩, by simp⟩, by simp, by simp⟩
  · obtain rfl : v = .slice (some a) len cap := by simpa using hcs
    simp only [if_true] at hmm
    have key : ∀ i, ∃ t : TxnV, i < len → (t.ok ∧ t.l.length ≤ 6000000000000) ∧ Ops W t.v t.l ∧ W.cell? ((a.add (i * 4)).add 0) = some (.int .i64 t.s) ∧ W.cell? ((a.add (i * 4)).add 1) = some (.int .i64 t.b) ∧ W.cell? ((a.add (i * 4)).add 2) = some (.int .i64 t.c) ∧ W.cell? ((a.add (i * 4)).add 3) = some t.v := fun i => by
      by_cases hlt : i < len
      · obtain ⟨cs', hc, ht⟩ := hi i (by omega)
        rw [cellsTxn] at hc
        obtain ⟨_, hcl, hat⟩ := World.cells?_some hc
        obtain ⟨y0, y1, y2, y3, n', hy, _, h0, h1, h2, h3⟩ := Joins.trod_struct4 Tryz.underlying91 ht
        match cs', hcl with
        | [x0, x1, x2, x3], _ =>
          obtain ⟨s, e0, _, w0⟩ := DataW.trod_int Tryz.underlying3 h0
          obtain ⟨b, e1, _, w1⟩ := DataW.trod_int Tryz.underlying3 h1
          obtain ⟨c, e2, _, w2⟩ := DataW.trod_int Tryz.underlying3 h2
          have k1 : Tryz.prog.cellsOf 3 = 1 := by kernel_rfl
          have k3 : Tryz.prog.cellsOf 89 = 1 := by kernel_rfl
          simp [k1] at e0 e1 e2
          subst e0; subst e1; subst e2
          simp [k3] at h3
          obtain ⟨l, hlo, hok, hlw⟩ := ops_of_cells h3
          have hll := hlw (fun q hq => hwt q (by
            rw [show x.1 = _ from congrArg Prod.fst hx]
            simp only [DataW.weights, Tryz.underlying22]
            refine List.mem_cons_of_mem _ (List.mem_append_left _ (weightsAll_mem (d := D i) ?_ (List.mem_map.2 ⟨i, List.mem_range.2 hlt, rfl⟩)))
            have hy1 := congrArg Prod.fst hy
            rw [show D i = _ from hy1]
            simp only [DataW.weights, Tryz.underlying91, DataW.weightsEach, List.map_cons, List.map_nil]
            simp [hq]))
          exact ⟨⟨s, b, c, x3, l⟩, fun _ => ⟨⟨⟨⟨bounds_i64 w0, bounds_i64 w1, bounds_i64 w2⟩, hok⟩, hll⟩, hlo, hat 0 (by omega), hat 1 (by omega), hat 2 (by omega), hat 3 (by omega)⟩⟩
      · exact ⟨⟨0, 0, 0, .nilIface, []⟩, fun h => absurd h hlt⟩
    obtain ⟨O, hO⟩ := Classical.skolem.1 key
    have hlen : ((List.range len).map O).length = len := by simp
    have hel : ∀ (i : Nat) (h : i < ((List.range len).map O).length), ((List.range len).map O)[i] = O i := fun i h => by simp
    refine ⟨(List.range len).map O, ⟨?_, ?_⟩, ?_, ?_⟩
    · generalize (List.range len).map O = l at *
      subst hlen
      refine ⟨txV_len l, some a, cap, rfl, ⟨hl, hm⟩, (fun h => by cases h), fun hn => ?_⟩
      obtain ⟨b, off, spot⟩ := a
      have hspot : spot = none := by
        have := (hO 0 hn).2.2.1
        simpa [Addr.add] using World.cell?_spot this
      subst hspot
      refine ⟨b, off, rfl, fun i hii => ?_⟩
      have hk : i / 4 < l.length := by omega
      obtain ⟨_, _, c0, c1, c2, c3⟩ := hO (i / 4) hk
      simp only [Addr.add_lit] at c0 c1 c2 c3
      obtain ⟨e0, e1, e2, e3⟩ := txV_at l (i / 4) hk
      rw [hel _ hk] at e0 e1 e2 e3
      have hm4 : i % 4 = 0 ∨ i % 4 = 1 ∨ i % 4 = 2 ∨ i % 4 = 3 := by omega
      rcases hm4 with h | h | h | h
      · rw [show i = i / 4 * 4 from by omega, e0, ← c0]; rfl
      · rw [show i = i / 4 * 4 + 1 from by omega, e1, ← c1, ← Nat.add_assoc]
      · rw [show i = i / 4 * 4 + 2 from by omega, e2, ← c2, ← Nat.add_assoc]
      · rw [show i = i / 4 * 4 + 3 from by omega, e3, ← c3, ← Nat.add_assoc]
    · intro t ht
      obtain ⟨i, hi2, rfl⟩ := List.mem_map.1 ht
      exact (hO i (List.mem_range.1 hi2)).2.1
    · intro t ht
      obtain ⟨i, hi2, rfl⟩ := List.mem_map.1 ht
      exact (hO i (List.mem_range.1 hi2)).1.1
    · intro t ht
      obtain ⟨i, hi2, rfl⟩ := List.mem_map.1 ht
      exact (hO i (List.mem_range.1 hi2)).1.2
theorem cellsU8C : Tryz.prog.cellsOf 5 = 1 := by kernel_rfl
theorem bytes_of_cells {H : Type} {enc : TypeId × Value → H} {W : World} {v : Value} {fuel : Nat} {x : DataW H × List MemPlace}
    (hf : DataW.trod enc Tryz.prog W 0 (fun _ => true) true fuel 23 [v] = some x) : ∃ xs : List Int, Row W v xs.length 1 (xs.map (Value.int .u8)) ∧ ∀ n ∈ xs, 0 ≤ n ∧ n < 256 := by
  rcases open_ints Tryz.underlying23 Tryz.underlying5 cellsU8C hf with ⟨hcs, hx⟩ | ⟨a, len, cap, zs, hcs, _, hl, hm, hz, hx, hcell, hwz⟩
  · obtain rfl : v = .slice none 0 0 := by simpa using hcs
    exact ⟨[], ⟨rfl, none, 0, rfl, by simp, (fun _ => ⟨rfl, rfl⟩), (fun h => by simp at h)⟩, by simp⟩
  · obtain rfl : v = .slice (some a) len cap := by simpa using hcs
    simp only [if_true] at hz
    have hlen : (zs.take len).length = len := by simp; omega
    refine ⟨zs.take len, ⟨by simp, some a, cap, by rw [hlen], by rw [hlen]; omega, (fun h => by cases h), (fun hn => ?_)⟩, fun n hn => by have := bounds_u8 (hwz n (List.mem_of_mem_take hn)); omega⟩
    obtain ⟨b, off, spot⟩ := a
    have hspot : spot = none := by simpa [Addr.add] using World.cell?_spot (hcell 0 (by omega))
    subst hspot
    refine ⟨b, off, rfl, fun i hi => ?_⟩
    have hi' : i < len := by omega
    have := hcell i (by omega)
    rw [Addr.add_lit] at this
    rw [this]
    simp [hi', List.getD, List.getElem?_eq_getElem (show i < zs.length by omega)]
theorem cellsCase : Tryz.prog.cellsOf 25 = 3 := by kernel_rfl
theorem case_of_trod {H : Type} {enc : TypeId × Value → H} {W : World} {base : Nat} {v : Value} {d : DataW H} {p : List MemPlace}
    (hval : Value.okWide Tryz.prog W .any base 25 v) (h : DataW.Trod enc Tryz.prog W 0 (fun _ => true) true 25 v d p) (hwt : ∀ n ∈ DataW.weights Tryz.prog 25 d, n ≤ reachBytes) :
    ∃ (vh vb : Value) (a : Nat) (l : List TxnV) (bs : List Int), v = .agg #[vh, .int .u8 a, vb] ∧ a < 256 ∧ (Txns W vh l ∧ (∀ t ∈ l, t.ok) ∧ ∀ t ∈ l, t.l.length ≤ 6000000000000) ∧ Row W vb bs.length 1 (bs.map (Value.int .u8)) ∧ ∀ n ∈ bs, 0 ≤ n ∧ n < 256 := by
  obtain ⟨v0, v1, v2, y0, y1, y2, n, rfl, hd, _, h0, h1, h2⟩ := Joins.open_agg3 Tryz.underlying25 (by kernel_rfl) cellsCase hval h
  obtain ⟨a, e1, _, w1⟩ := DataW.trod_int Tryz.underlying5 h1
  simp at e1
  subst e1
  have ha := bounds_u8 w1
  obtain ⟨a', rfl⟩ := Int.eq_ofNat_of_zero_le ha.1
  obtain ⟨bs, hB, hbs⟩ := bytes_of_cells h2
  obtain ⟨l, hT, hok, hsh⟩ := txns_of_cells h0 (fun q hq => hwt q (by
    rw [hd]
    simp only [DataW.weights, Tryz.underlying25, DataW.weightsEach, List.map_cons, List.map_nil]
    simp [hq]))
  exact ⟨v0, v2, a', l, bs, rfl, by omega, ⟨hT, hok, hsh⟩, hB, hbs⟩
end Go.Proofs.YtfancjmhdbaoeaaGreatDoor

namespace Go.Proofs.YtfancjmhdbaoeaaGreatDoor
set_option maxRecDepth 100000
open Go.RowKit

/-- The set of the numbers below 64 that a test lets by. -/
def mkS (p : Nat → Bool) : Nat := ((List.range 64).filter p).foldl (fun s i => s ||| 2 ^ i) 0
theorem testBit_fold (l : List Nat) : ∀ (s i : Nat), (l.foldl (fun s i => s ||| 2 ^ i) s).testBit i = (s.testBit i || l.contains i) := by
  induction l with
  | nil => intro s i; simp
  | cons a l ih =>
    intro s i
    rw [List.foldl_cons, ih, Nat.testBit_or, Nat.testBit_two_pow, List.contains_cons, Bool.or_assoc]
    congr 2
    rw [Bool.eq_iff_iff, decide_eq_true_iff, beq_iff_eq]
    exact ⟨fun h => h.symm, fun h => h.symm⟩
theorem testBit_mkS (p : Nat → Bool) (i : Nat) : (mkS p).testBit i = (decide (i < 64) && p i) := by
  unfold mkS
  rw [testBit_fold, Nat.zero_testBit, Bool.false_or, Bool.eq_iff_iff]
  simp
theorem isSet_mkS (p : Nat → Bool) : IsSet (mkS p) := by
  apply isSet_of_bits
  intro i hi
  rw [testBit_mkS]
  have : ¬ i < 64 := by omega
  simp [this]
theorem mkS_eq {s : Nat} {p : Nat → Bool} (hs : IsSet s) (h : ∀ i, i < 64 → s.testBit i = p i) : s = mkS p := by
  apply set_ext hs (isSet_mkS p)
  intro i hi
  rw [testBit_mkS, h i hi]; simp [hi]
theorem mkS_congr {p q : Nat → Bool} (h : ∀ i, i < 64 → p i = q i) : mkS p = mkS q := by
  apply mkS_eq (isSet_mkS p)
  intro i hi
  rw [testBit_mkS, h i hi]; simp [hi]
theorem mkS_false : mkS (fun _ => false) = 0 := (mkS_eq (by unfold IsSet; omega) fun i _ => by simp).symm
/-- A relation: does a stand to b? -/
abbrev Mat := Nat → Nat → Bool
/-- The array of a relation's rows. -/
def rowsA (R : Mat) : Array Value := ((List.range 64).map fun i => Value.int .u64 ((mkS (R i) : Nat) : Int)).toArray
theorem rowsA_size (R : Mat) : (rowsA R).size = 64 := by simp [rowsA]
theorem rowsA_at (R : Mat) {i : Nat} (hi : i < 64) : (rowsA R)[i]? = some (.int .u64 ((mkS (R i) : Nat) : Int)) := by
  simp [rowsA, hi]
/-- A relation with one row anew. -/
def rowSet (R : Mat) (a : Nat) (p : Nat → Bool) : Mat := fun i => if i = a then p else R i
theorem rowsA_set (R : Mat) (a s : Nat) (p : Nat → Bool) (hs : s = mkS p) : (rowsA R).setIfInBounds a (.int .u64 (s : Int)) = rowsA (rowSet R a p) := by
  subst hs
  apply Array.ext_getElem?
  intro i
  by_cases hi : i < 64
  · rw [rowsA_at _ hi, Array.getElem?_setIfInBounds]
    unfold rowSet
    by_cases e : a = i
    · subst e; simp [rowsA_size, hi]
    · rw [if_neg e, rowsA_at R hi, if_neg (fun h => e h.symm)]
  · rw [Array.getElem?_eq_none (by rw [Array.size_setIfInBounds, rowsA_size]; omega), Array.getElem?_eq_none (by rw [rowsA_size]; omega)]
theorem rowsA_congr {R S : Mat} (h : ∀ i j, i < 64 → j < 64 → R i j = S i j) : rowsA R = rowsA S := by
  apply Array.ext_getElem?
  intro i
  by_cases hi : i < 64
  · rw [rowsA_at _ hi, rowsA_at _ hi, mkS_congr fun j hj => h i j hi hj]
  · rw [Array.getElem?_eq_none (by rw [rowsA_size]; omega), Array.getElem?_eq_none (by rw [rowsA_size]; omega)]
theorem rowsA_inj {R S : Mat} (h : rowsA R = rowsA S) : ∀ i j, i < 64 → j < 64 → R i j = S i j := by
  intro i j hi hj
  have h1 := rowsA_at R hi
  rw [h, rowsA_at S hi] at h1
  have h2 : mkS (R i) = mkS (S i) := by
    have := Option.some.inj h1
    simp at this; omega
  have h3 := congrArg (fun s => s.testBit j) h2
  simpa [testBit_mkS, hj] using h3
/-- The block that holds a relation. -/
def RelAt (w : World) (g : Nat) (t : TypeId) (R : Mat) : Prop := w.heap[g]? = some (.cells (rowsA R) t (0, 0))
theorem RelAt.cell {w : World} {g : Nat} {t : TypeId} {R : Mat} (h : RelAt w g t R) {i : Nat} (hi : i < 64) : w.cell? ⟨g, i, none⟩ = some (.int .u64 ((mkS (R i) : Nat) : Int)) := by
  rw [cell_of_row w g i _ _ _ h, rowsA_at R hi]
theorem RelAt.free {w : World} {g : Nat} {t : TypeId} {R : Mat} (h : RelAt w g t R) (i : Nat) : w.frozen? ⟨g, i, none⟩ = false := frozen_of_row w g i _ _ h
theorem RelAt.lt {w : World} {g : Nat} {t : TypeId} {R : Mat} (h : RelAt w g t R) : g < w.heap.size := by
  by_cases h0 : g < w.heap.size
  · exact h0
  · unfold RelAt at h; rw [Array.getElem?_eq_none (Nat.le_of_not_lt h0)] at h; cases h
theorem RelAt.below {w w' : World} {g B : Nat} {t : TypeId} {R : Mat} (h : RelAt w g t R) (hb : Below B w w') (hB : g < B) : RelAt w' g t R := by
  unfold RelAt at *; rw [hb.block g hB, h]
theorem RelAt.store {w : World} {g : Nat} {t : TypeId} {R : Mat} (h : RelAt w g t R) (a s : Nat) (p : Nat → Bool) (hs : s = mkS p) :
    RelAt (w.setCell ⟨g, a, none⟩ (.int .u64 (s : Int))) g t (rowSet R a p) := by
  unfold RelAt at *
  rw [heap_setCell_same w g a _ t _ h, rowsA_set R a s p hs]
theorem RelAt.other {w : World} {g : Nat} {t : TypeId} {R : Mat} (h : RelAt w g t R) {k : Addr} (hk : g ≠ k.block) (v : Value) : RelAt (w.setCell k v) g t R := by
  unfold RelAt at *; rw [heap_setCell_other w k g v hk, h]
theorem RelAt.alloc {w : World} {g : Nat} {t : TypeId} {R : Mat} (h : RelAt w g t R) (o : Obj) : RelAt (w.alloc o) g t R := by
  have hl := RelAt.lt h
  unfold RelAt at *; rw [Below.heap_alloc w o g hl, h]
theorem RelAt.new (w : World) (t : TypeId) (R : Mat) : RelAt (w.alloc (.cells (rowsA R) t)) w.heap.size t R := heap_alloc_new w _
/-- The relation that has nothing. -/
def noR : Mat := fun _ _ => false
theorem rowsA_none : rowsA noR = Array.replicate 64 (.int .u64 0) := by
  apply Array.ext_getElem?
  intro i
  by_cases hi : i < 64
  · rw [rowsA_at _ hi, Array.getElem?_replicate, if_pos hi]
    have : mkS (noR i) = 0 := mkS_false
    rw [this]; rfl
  · rw [Array.getElem?_eq_none (by rw [rowsA_size]; omega), Array.getElem?_eq_none (by simp; omega)]
theorem RelAt.made (w : World) (t : TypeId) (R : Mat) {cs : Array Value} {g : Nat} (hg : g = w.heap.size) (hc : cs = rowsA R) : RelAt (w.alloc (.cells cs t)) g t R := by
  subst hg hc; exact RelAt.new w t R
end Go.Proofs.YtfancjmhdbaoeaaGreatDoor

namespace Go.Proofs.YtfancjmhdbaoeaaGreatDoor
set_option maxRecDepth 100000

/-- One comes from i to j, in one step or more, by numbers below 64. -/
inductive Path (R : Mat) : Nat → Nat → Prop
  | one {i j : Nat} : R i j = true → Path R i j
  | more {i m j : Nat} : R i m = true → m < 64 → Path R m j → Path R i j
theorem Path.trans {R : Mat} {i m j : Nat} (h : Path R i m) (hm : m < 64) (k : Path R m j) : Path R i j := by
  induction h with
  | one h => exact .more h hm k
  | more h h2 _ ih => exact .more h h2 (ih hm k)
theorem Path.mono {R S : Mat} {i j : Nat} (h : Path R i j) (hRS : ∀ a b, R a b = true → S a b = true) : Path S i j := by
  induction h with
  | one h => exact .one (hRS _ _ h)
  | more h h2 _ ih => exact .more (hRS _ _ h) h2 ih
/-- One pass: what comes by m is added on. -/
def wPass (R : Mat) (m : Nat) : Mat := fun i j => R i j || (R i m && R m j)
def cloTo (R : Mat) : Nat → Mat
  | 0 => R
  | m + 1 => wPass (cloTo R m) m
def clo (R : Mat) : Mat := cloTo R 64
theorem cloTo_path (R : Mat) : ∀ (k : Nat), k ≤ 64 → ∀ i j, cloTo R k i j = true → Path R i j
  | 0, _, i, j, h => .one h
  | k + 1, hk, i, j, h => by
    have h' : (cloTo R k i j || (cloTo R k i k && cloTo R k k j)) = true := h
    rw [Bool.or_eq_true, Bool.and_eq_true] at h'
    rcases h' with h' | ⟨h1, h2⟩
    · exact cloTo_path R k (by omega) i j h'
    · exact (cloTo_path R k (by omega) i k h1).trans (by omega) (cloTo_path R k (by omega) k j h2)
theorem cloTo_sub (R : Mat) (i j : Nat) (h : R i j = true) : ∀ k, cloTo R k i j = true
  | 0 => h
  | k + 1 => by
    show (cloTo R k i j || _) = true
    rw [cloTo_sub R i j h k]; rfl
theorem cloTo_trans (R : Mat) : ∀ (k : Nat) (i m j : Nat), m < k → cloTo R k i m = true → cloTo R k m j = true → cloTo R k i j = true
  | 0, _, _, _, h, _, _ => by omega
  | k + 1, i, m, j, hm, h1, h2 => by
    have ih := cloTo_trans R k
    have e1 : (cloTo R k i m || (cloTo R k i k && cloTo R k k m)) = true := h1
    have e2 : (cloTo R k m j || (cloTo R k m k && cloTo R k k j)) = true := h2
    show (cloTo R k i j || (cloTo R k i k && cloTo R k k j)) = true
    generalize cloTo R k = A at *
    rw [Bool.or_eq_true, Bool.and_eq_true] at *
    by_cases hmk : m = k
    · subst hmk
      exact .inr ⟨e1.elim id (·.1), e2.elim id (·.2)⟩
    · have hlt : m < k := by omega
      rcases e1 with a | ⟨a1, a2⟩ <;> rcases e2 with b | ⟨b1, b2⟩
      · exact .inl (ih i m j hlt a b)
      · exact .inr ⟨ih i m k hlt a b1, b2⟩
      · exact .inr ⟨a1, ih k m j hlt a2 b⟩
      · exact .inr ⟨a1, b2⟩
theorem clo_iff (R : Mat) (i j : Nat) : clo R i j = true ↔ Path R i j := by
  constructor
  · exact cloTo_path R 64 (Nat.le_refl _) i j
  · intro h
    induction h with
    | one h => exact cloTo_sub R _ _ h 64
    | more h hm _ ih => exact cloTo_trans R 64 _ _ _ hm (cloTo_sub R _ _ h 64) ih
end Go.Proofs.YtfancjmhdbaoeaaGreatDoor

namespace Go.Proofs.YtfancjmhdbaoeaaGreatDoor
set_option maxRecDepth 100000
open Go.RowKit

abbrev Pr := Int × Int
def prV (l : List Pr) : List Value := l.flatMap fun p => [.int .i64 p.1, .int .i64 p.2]
theorem prV_len (l : List Pr) : (prV l).length = l.length * 2 := by
  induction l with
  | nil => rfl
  | cons a l ih => unfold prV at *; rw [List.flatMap_cons, List.length_append, ih, List.length_cons]; simp; omega
theorem prV_at : ∀ (l : List Pr) (k : Nat) (hk : k < l.length), (prV l)[2 * k]? = some (.int .i64 l[k].1) ∧ (prV l)[2 * k + 1]? = some (.int .i64 l[k].2)
  | [], k, hk => by simp at hk
  | a :: l, 0, _ => by unfold prV; simp
  | a :: l, k + 1, hk => by
    have := prV_at l k (by simpa using hk)
    unfold prV at *
    rw [List.flatMap_cons, show 2 * (k + 1) = 2 * k + 2 by omega]
    simpa using this
theorem prV_append (l m : List Pr) : prV (l ++ m) = prV l ++ prV m := by unfold prV; rw [List.flatMap_append]
theorem prV_oneCell (l : List Pr) : ∀ u ∈ prV l, u.oneCell' = true := by
  intro u hu
  unfold prV at hu
  obtain ⟨p, _, hp⟩ := List.mem_flatMap.1 hu
  simp at hp
  rcases hp with rfl | rfl <;> rfl
/-- The slice v holds these pairs. -/
def Prs (w : World) (v : Value) (l : List Pr) : Prop := Row w v l.length 2 (prV l)
theorem Prs.below {w w' : World} {v : Value} {l : List Pr} (h : Prs w v l) (hb : Below w.heap.size w w') : Prs w' v l := Row.below h hb
theorem Prs.of_owns {w : World} {base : Nat} {e : TypeId} {v : Value} {n : Nat} {l : List Pr} (h : w.ownsRow base e 2 v n (prV l)) : Prs w v l := by
  have hr := Row.of_owns h
  have hn : n = l.length := by have := h.1; rw [prV_len] at this; omega
  subst hn; exact hr
theorem Prs.form {w : World} {v : Value} {l : List Pr} (h : Prs w v l) : ∃ ao cap, v = .slice ao l.length cap ∧ l.length ≤ 9223372036854775807 := by
  obtain ⟨_, ao, cap, rfl, hm, _, _⟩ := h
  exact ⟨ao, cap, rfl, Nat.le_trans hm.1 hm.2⟩
theorem Prs.at {w : World} {ao : Option Addr} {n cap : Nat} {l : List Pr} (h : Prs w (.slice ao n cap) l) {k : Nat} (hk : k < l.length) :
    ∃ b off, ao = some ⟨b, off, none⟩ ∧ w.cell? ⟨b, off + k * 2, none⟩ = some (.int .i64 l[k].1) ∧ w.cell? ⟨b, off + k * 2 + 1, none⟩ = some (.int .i64 l[k].2) := by
  obtain ⟨_, ao', cap', he, hm, _, hc⟩ := h
  obtain ⟨rfl, _, _⟩ : ao = ao' ∧ n = l.length ∧ cap = cap' := by simpa using he
  obtain ⟨b, off, rfl, hcell⟩ := hc (by omega)
  obtain ⟨h1, h2⟩ := prV_at l k hk
  refine ⟨b, off, rfl, ?_, ?_⟩
  · rw [Nat.mul_comm k 2, hcell (2 * k) (by omega), h1]
  · rw [Nat.mul_comm k 2, Nat.add_assoc, hcell (2 * k + 1) (by omega), h2]

def hasP (l : List Pr) (a b : Int) : Bool := l.any fun p => p.1 == a && p.2 == b
theorem hasP_iff {l : List Pr} {a b : Int} : hasP l a b = true ↔ (a, b) ∈ l := by
  unfold hasP
  rw [List.any_eq_true]
  constructor
  · rintro ⟨⟨x, y⟩, h, e⟩
    simp at e
    obtain ⟨rfl, rfl⟩ := e
    exact h
  · intro h; exact ⟨(a, b), h, by simp⟩
theorem hasP_succ (l : List Pr) (a b : Int) (k : Nat) (hk : k < l.length) : hasP (l.take (k + 1)) a b = (hasP (l.take k) a b || (l[k].1 == a && l[k].2 == b)) := by
  unfold hasP
  rw [List.take_succ_eq_append_getElem hk, List.any_append]; simp
theorem hasP_hit (l : List Pr) (a b : Int) (k : Nat) (hk : k < l.length) (h1 : l[k].1 = a) (h2 : l[k].2 = b) : true = hasP l a b := by
  symm
  rw [hasP_iff]
  have : l[k] = (a, b) := Prod.ext h1 h2
  rw [← this]; exact List.getElem_mem hk
def putP (l : List Pr) (a b : Int) : List Pr := if hasP l a b then l else l ++ [(a, b)]
theorem mem_putP {l : List Pr} {a b : Int} {p : Pr} : p ∈ putP l a b ↔ p ∈ l ∨ p = (a, b) := by
  unfold putP
  split
  · rename_i h
    rw [hasP_iff] at h
    exact ⟨.inl, fun h' => h'.elim id (fun e => e ▸ h)⟩
  · simp
theorem putP_nodup {l : List Pr} {a b : Int} (h : l.Nodup) : (putP l a b).Nodup := by
  unfold putP
  split
  · exact h
  · rename_i hn
    rw [List.nodup_append]
    refine ⟨h, by simp, ?_⟩
    intro x hx y hy
    simp at hy
    subst hy
    rintro rfl
    exact hn (hasP_iff.2 hx)
/-- Pairs put in, one by one. -/
def putAll (o l : List Pr) : List Pr := l.foldl (fun o p => putP o p.1 p.2) o
theorem mem_putAll {p : Pr} : ∀ (l o : List Pr), p ∈ putAll o l ↔ p ∈ o ∨ p ∈ l
  | [], o => by simp [putAll]
  | q :: l, o => by
    have := mem_putAll (p := p) l (putP o q.1 q.2)
    unfold putAll at *
    rw [List.foldl_cons, this, mem_putP, List.mem_cons, or_assoc]
theorem putAll_nodup : ∀ (l : List Pr) {o : List Pr}, o.Nodup → (putAll o l).Nodup
  | [], _, h => h
  | _ :: l, _, h => putAll_nodup l (putP_nodup h)
/-- One pair, and then any of some, put in. -/
def thenOne (o : List Pr) (p : Pr) (m : List Pr) : List Pr := m.foldl (fun o q => if p.2 == q.1 then putP o p.1 q.2 else o) o
def thenP (l m : List Pr) : List Pr := l.foldl (fun o p => thenOne o p m) []
theorem mem_thenOne {x : Pr} {p : Pr} : ∀ (m o : List Pr), x ∈ thenOne o p m ↔ x ∈ o ∨ ∃ q ∈ m, p.2 = q.1 ∧ x = (p.1, q.2)
  | [], o => by simp [thenOne]
  | q :: m, o => by
    have h := mem_thenOne (x := x) (p := p) m (if p.2 == q.1 then putP o p.1 q.2 else o)
    have e : thenOne o p (q :: m) = thenOne (if p.2 == q.1 then putP o p.1 q.2 else o) p m := rfl
    rw [e, h]
    by_cases hpq : p.2 = q.1
    · have : (p.2 == q.1) = true := by simpa using hpq
      rw [if_pos this, mem_putP, or_assoc]
      apply or_congr Iff.rfl
      constructor
      · rintro (rfl | ⟨r, hr, h1, h2⟩)
        · exact ⟨q, List.mem_cons_self, hpq, rfl⟩
        · exact ⟨r, List.mem_cons_of_mem _ hr, h1, h2⟩
      · rintro ⟨r, hr, h1, h2⟩
        rcases List.mem_cons.1 hr with rfl | hr
        · exact .inl h2
        · exact .inr ⟨r, hr, h1, h2⟩
    · have : ¬ (p.2 == q.1) = true := by simpa using hpq
      rw [if_neg this]
      apply or_congr Iff.rfl
      constructor
      · rintro ⟨r, hr, h1, h2⟩; exact ⟨r, List.mem_cons_of_mem _ hr, h1, h2⟩
      · rintro ⟨r, hr, h1, h2⟩
        rcases List.mem_cons.1 hr with rfl | hr
        · exact absurd h1 hpq
        · exact ⟨r, hr, h1, h2⟩
theorem mem_thenAll {x : Pr} {m : List Pr} : ∀ (l o : List Pr), x ∈ l.foldl (fun o p => thenOne o p m) o ↔ x ∈ o ∨ ∃ p ∈ l, ∃ q ∈ m, p.2 = q.1 ∧ x = (p.1, q.2)
  | [], o => by simp
  | p :: l, o => by
    rw [List.foldl_cons, mem_thenAll l, mem_thenOne, or_assoc]
    apply or_congr Iff.rfl
    constructor
    · rintro (⟨q, hq, h⟩ | ⟨r, hr, q, hq, h⟩)
      · exact ⟨p, List.mem_cons_self, q, hq, h⟩
      · exact ⟨r, List.mem_cons_of_mem _ hr, q, hq, h⟩
    · rintro ⟨r, hr, q, hq, h⟩
      rcases List.mem_cons.1 hr with rfl | hr
      · exact .inl ⟨q, hq, h⟩
      · exact .inr ⟨r, hr, q, hq, h⟩
theorem mem_thenP {x : Pr} {l m : List Pr} : x ∈ thenP l m ↔ ∃ p ∈ l, ∃ q ∈ m, p.2 = q.1 ∧ x = (p.1, q.2) := by
  unfold thenP; rw [mem_thenAll]; simp
/-- A list without repeats that lies in another one is no longer. -/
theorem nodup_le {α : Type} [BEq α] [LawfulBEq α] : ∀ (l m : List α), l.Nodup → (∀ x ∈ l, x ∈ m) → l.length ≤ m.length
  | [], _, _, _ => by simp
  | a :: l, m, hn, hs => by
    rw [List.nodup_cons] at hn
    have ha := hs a List.mem_cons_self
    have := nodup_le l (m.erase a) hn.2 (fun x hx => by
      have hxa : x ≠ a := by rintro rfl; exact hn.1 hx
      exact (List.mem_erase_of_ne hxa).2 (hs x (List.mem_cons_of_mem _ hx)))
    rw [List.length_erase_of_mem ha] at this
    have hpos : 0 < m.length := List.length_pos_of_mem ha
    rw [List.length_cons]; omega
/-- One comes from a to b, by the pairs of a list, in one step or more. -/
inductive PathP (l : List Pr) : Int → Int → Prop
  | one {a b : Int} : (a, b) ∈ l → PathP l a b
  | more {a b c : Int} : PathP l a b → (b, c) ∈ l → PathP l a c
theorem PathP.ends {l : List Pr} {a b : Int} (h : PathP l a b) : (∃ y, (a, y) ∈ l) ∧ ∃ x, (x, b) ∈ l := by
  induction h with
  | one h => exact ⟨⟨_, h⟩, ⟨_, h⟩⟩
  | more _ h ih => exact ⟨ih.1, ⟨_, h⟩⟩
/-- One more round of the reference's closing. -/
def cloNext (o l : List Pr) : List Pr := putAll o (thenP o l)
/-- What holds of the reference's list from its first round on. -/
structure CloInv (l o : List Pr) : Prop where
  nodup : o.Nodup
  has : ∀ p ∈ l, p ∈ o
  path : ∀ a b, (a, b) ∈ o → PathP l a b
theorem CloInv.next {l o : List Pr} (h : CloInv l o) : CloInv l (cloNext o l) where
  nodup := putAll_nodup _ h.nodup
  has := fun p hp => (mem_putAll _ _).2 (.inl (h.has p hp))
  path := fun a b hab => by
    rcases (mem_putAll _ _).1 hab with h' | h'
    · exact h.path a b h'
    · obtain ⟨⟨x, y⟩, hp, ⟨u, v⟩, hq, h1, h2⟩ := mem_thenP.1 h'
      simp at h1 h2
      obtain ⟨rfl, rfl⟩ := h2
      subst h1
      exact .more (h.path _ _ hp) hq
theorem CloInv.len {l o : List Pr} (h : CloInv l o) : o.length ≤ l.length * l.length := by
  have := nodup_le o (l.flatMap fun p => l.map fun q => (p.1, q.2)) h.nodup (fun x hx => by
    obtain ⟨⟨y, hy⟩, ⟨z, hz⟩⟩ := (h.path x.1 x.2 hx).ends
    exact List.mem_flatMap.2 ⟨_, hy, List.mem_map.2 ⟨_, hz, rfl⟩⟩)
  have e : (l.flatMap fun p => l.map fun q => (p.1, q.2)).length = l.length * l.length := by
    rw [List.length_flatMap]
    have : (l.map fun p => (l.map fun q => ((p.1, q.2) : Pr)).length) = l.map fun _ => l.length := by simp
    rw [this, List.map_const']
    have hr : ∀ n k : Nat, (List.replicate n k).sum = n * k := by
      intro n k; induction n with
      | zero => simp
      | succ n ih => rw [List.replicate_succ, List.sum_cons, ih, Nat.succ_mul]; omega
    exact hr _ _
  rw [e] at this; exact this
theorem CloInv.done {l o : List Pr} (h : CloInv l o) (hd : (cloNext o l).length = o.length) (a b : Int) : (a, b) ∈ o ↔ PathP l a b := by
  constructor
  · exact h.path a b
  · intro hp
    have hsub : ∀ x ∈ cloNext o l, x ∈ o := by
      intro x hx
      by_cases hxo : x ∈ o
      · exact hxo
      · have h2 := nodup_le (x :: o) (cloNext o l) (List.nodup_cons.2 ⟨hxo, h.nodup⟩) (fun y hy => by
          rcases List.mem_cons.1 hy with rfl | hy
          · exact hx
          · exact (mem_putAll _ _).2 (.inl hy))
        rw [List.length_cons] at h2; omega
    induction hp with
    | one h' => exact h.has _ h'
    | more _ h' ih => exact hsub _ ((mem_putAll _ _).2 (.inr (mem_thenP.2 ⟨_, ih, _, h', rfl, rfl⟩)))
end Go.Proofs.YtfancjmhdbaoeaaGreatDoor

namespace Go.Proofs.YtfancjmhdbaoeaaGreatDoor
set_option maxRecDepth 100000
open Go.ChangeShapes Go.WideShapes Go.ChangeAt Go.RowKit Go.Deep

/-- Acts: who is tried, or taken back. -/
def actV (l : List (Int × Bool)) : List Value := l.flatMap fun p => [.int .i64 p.1, .bool p.2]
theorem actV_len : ∀ l : List (Int × Bool), (actV l).length = l.length * 2
  | [] => rfl
  | p :: l => by
    have e : actV (p :: l) = .int .i64 p.1 :: .bool p.2 :: actV l := rfl
    rw [e, List.length_cons, List.length_cons, actV_len l, List.length_cons]; omega
theorem actV_at : ∀ (l : List (Int × Bool)) (k : Nat) (hk : k < l.length), (actV l)[k * 2]? = some (.int .i64 l[k].1) ∧ (actV l)[k * 2 + 1]? = some (.bool l[k].2)
  | [], k, hk => by simp at hk
  | p :: l, 0, _ => by simp [actV]
  | p :: l, k + 1, hk => by
    obtain ⟨h1, h2⟩ := actV_at l k (by simpa using hk)
    have e : (k + 1) * 2 = k * 2 + 1 + 1 := by omega
    have e2 : actV (p :: l) = .int .i64 p.1 :: .bool p.2 :: actV l := rfl
    rw [e, e2]
    exact ⟨by simpa using h1, by simpa using h2⟩
def Acts (w : World) (v : Value) (l : List (Int × Bool)) : Prop := Row w v l.length 2 (actV l)
theorem Acts.below {w w' : World} {v : Value} {l : List (Int × Bool)} (h : Acts w v l) (hb : Below w.heap.size w w') : Acts w' v l := Row.below h hb
theorem Acts.form {w : World} {v : Value} {l : List (Int × Bool)} (h : Acts w v l) : ∃ ao cap, v = .slice ao l.length cap ∧ l.length ≤ 9223372036854775807 := by
  obtain ⟨_, ao, cap, rfl, hm, _, _⟩ := h
  exact ⟨ao, cap, rfl, Nat.le_trans hm.1 hm.2⟩
theorem Acts.at {w : World} {ao : Option Addr} {n cap : Nat} {l : List (Int × Bool)} (h : Acts w (.slice ao n cap) l) {k : Nat} (hk : k < l.length) :
    ∃ b off, ao = some ⟨b, off, none⟩ ∧ w.cell? ⟨b, off + k * 2, none⟩ = some (.int .i64 l[k].1) ∧ w.cell? ⟨b, off + k * 2 + 1, none⟩ = some (.bool l[k].2) := by
  obtain ⟨_, ao', cap', he, hm, _, hc⟩ := h
  obtain ⟨rfl, _, _⟩ : ao = ao' ∧ n = l.length ∧ cap = cap' := by simpa using he
  obtain ⟨b, off, rfl, hcell⟩ := hc (by omega)
  obtain ⟨h0, h1⟩ := actV_at l k hk
  exact ⟨b, off, rfl, by rw [hcell _ (by omega), h0], by rw [Nat.add_assoc, hcell _ (by omega), h1]⟩
theorem cellsAct : Tryz.prog.cellsOf 63 = 2 := by kernel_rfl
theorem cellsIntA : Tryz.prog.cellsOf 3 = 1 := by kernel_rfl
theorem cellsBoolA : Tryz.prog.cellsOf 4 = 1 := by kernel_rfl
theorem acts_of_trod {H : Type} {enc : TypeId × Value → H} {W : World} {base : Nat} {v : Value} {d : DataW H} {p : List MemPlace}
    (hval : Value.okWide Tryz.prog W .any base 57 v) (h : DataW.Trod enc Tryz.prog W 0 (fun _ => true) true 57 v d p) : ∃ l, Acts W v l := by
  obtain ⟨a0, len, cap, rfl⟩ := okWide_slice Tryz.underlying57 hval
  obtain ⟨fuel, hf⟩ := h
  rcases open_slice_pairs Tryz.underlying57 Tryz.underlying63 cellsAct rfl rfl cellsIntA cellsBoolA hf with ⟨hcs, hx⟩ | ⟨a, len', cap', m, n, V0, V1, D0, D1, P0, P1, hcs, hb, hl, hm, hmm, hx, hi⟩
  · simp [Value.cells] at hcs
    obtain ⟨rfl, rfl, rfl⟩ := hcs
    exact ⟨[], rfl, none, 0, rfl, by simp, (fun _ => ⟨rfl, rfl⟩), (fun h => by simp at h)⟩
  · simp [Value.cells] at hcs
    obtain ⟨rfl, rfl, rfl⟩ := hcs
    simp only [if_true] at hmm
    have h0 : ∀ i, ∃ z : Int, i < len → V0 i = .int .i64 z := fun i => by
      by_cases hlt : i < len
      · obtain ⟨_, _, ht, _⟩ := hi i (by omega)
        obtain ⟨z, hc, _⟩ := DataW.trod_int Tryz.underlying3 ht
        exact ⟨z, fun _ => by simpa using hc⟩
      · exact ⟨0, fun h => absurd h hlt⟩
    have h1 : ∀ i, ∃ z : Bool, i < len → V1 i = .bool z := fun i => by
      by_cases hlt : i < len
      · obtain ⟨_, _, _, ht⟩ := hi i (by omega)
        obtain ⟨z, hc, _⟩ := DataW.trod_bool Tryz.underlying4 ht
        exact ⟨z, fun _ => by simpa using hc⟩
      · exact ⟨false, fun h => absurd h hlt⟩
    obtain ⟨Z0, hZ0⟩ := Classical.skolem.1 h0
    obtain ⟨Z1, hZ1⟩ := Classical.skolem.1 h1
    have hlen : ((List.range len).map fun i => ((Z0 i, Z1 i) : Int × Bool)).length = len := by simp
    have hel : ∀ (i : Nat) (h : i < ((List.range len).map fun i => ((Z0 i, Z1 i) : Int × Bool)).length), ((List.range len).map fun i => ((Z0 i, Z1 i) : Int × Bool))[i] = (Z0 i, Z1 i) := fun i h => by simp
    refine ⟨(List.range len).map fun i => ((Z0 i, Z1 i) : Int × Bool), ?_⟩
    generalize (List.range len).map (fun i => ((Z0 i, Z1 i) : Int × Bool)) = l at *
    subst hlen
    refine ⟨actV_len l, some a, cap, rfl, ⟨hl, hm⟩, (fun h => by cases h), fun hn => ?_⟩
    obtain ⟨b, off, spot⟩ := a
    have hspot : spot = none := by simpa [Addr.add] using World.cell?_spot (hi 0 (by omega)).1
    subst hspot
    refine ⟨b, off, rfl, fun i hii => ?_⟩
    have hk : i / 2 < l.length := by omega
    obtain ⟨c0, c1, _, _⟩ := hi (i / 2) (by omega)
    rw [Addr.add_lit, hZ0 _ hk] at c0
    rw [Addr.add_lit, hZ1 _ hk] at c1
    obtain ⟨e0, e1⟩ := actV_at l (i / 2) hk
    rw [hel _ hk] at e0 e1
    rcases Nat.mod_two_eq_zero_or_one i with h | h
    · have ei : i = i / 2 * 2 := by omega
      rw [ei, e0, ← c0]
    · have ei : i = i / 2 * 2 + 1 := by omega
      rw [ei, e1, ← c1]
end Go.Proofs.YtfancjmhdbaoeaaGreatDoor

namespace Go.Proofs.YtfancjmhdbaoeaaGreatDoor
set_option maxRecDepth 100000
open Go.RowKit

/-- Is a number among some? -/
def hasL (l : List Int) (n : Int) : Bool := l.any fun x => x == n
theorem hasL_succ (l : List Int) (n : Int) (k : Nat) (hk : k < l.length) : hasL (l.take (k + 1)) n = (hasL (l.take k) n || l[k] == n) := by
  unfold hasL
  rw [List.take_succ_eq_append_getElem hk, List.any_append]; simp
theorem hasL_hit (l : List Int) (n : Int) (k : Nat) (hk : k < l.length) (h : l[k] = n) : true = hasL l n := by
  unfold hasL
  symm
  rw [List.any_eq_true]
  exact ⟨l[k], List.getElem_mem hk, by simp [h]⟩
set_option maxHeartbeats 400000 in
theorem rhas_any (v : Value) (l : List Int) (n : Int) (w : World) (hv : Ints w v l) :
    Calls Tryz.prog 78 #[v, .int .i64 n] w fun e w' => e = .returned (.bool (hasL l n)) ∧ w = w' := by
  obtain ⟨ao, cap, rfl, hlen⟩ := hv.form
  go_enter Tryz.func78, Tryz.ntmps78
  go_wp2
  go_loop [5] (fun i => ∃ k : Nat, k ≤ l.length ∧ i = .int .i64 k ∧ hasL (l.take k) n = false) (fun i => l.length - (intOf i).toNat)
  case atStart => exact ⟨0, Nat.zero_le _, rfl, by simp [hasL]⟩
  case round =>
    obtain ⟨k, hk, rfl, hno⟩ := hrel
    have HNO := Lib.hid hno; clear hno
    by_cases hlt : k < l.length
    · obtain ⟨b, off, rfl, hc⟩ := hv.at hlt
      have HS := Lib.hid (hasL_succ l n k hlt)
      have HH := Lib.hid (hasL_hit l n k hlt)
      generalize l[k] = z at *
      by_cases hz : z = n
      · have hz' : (z == n) = true := by simpa using hz
        go_wp2
        go_ret
        exact ⟨ret_b (HH.out hz), rfl⟩
      · have hz' : (z == n) = false := by simpa using hz
        go_wp2
        go_round
        case rel => exact ⟨k + 1, by omega, by go_num, by rw [HS.out, HNO.out, hz']; rfl⟩
        case measure => simp [intOf]; omega
    · go_wp2
      go_ret
      exact ⟨ret_b (by rw [← HNO.out, List.take_of_length_le (by omega)]), rfl⟩
end Go.Proofs.YtfancjmhdbaoeaaGreatDoor

namespace Go.Proofs.YtfancjmhdbaoeaaGreatDoor
set_option maxRecDepth 100000
open Go.RowKit

def ofTo (l : List Int) : Nat → Nat
  | 0 => 0
  | m + 1 => 2 * ofTo l m + if hasL l (63 - (m : Int)) then 1 else 0
def ofL (l : List Int) : Nat := ofTo l 64
theorem ofTo_lt (l : List Int) : ∀ m, ofTo l m < 2 ^ m
  | 0 => by simp [ofTo]
  | m + 1 => by
    have := ofTo_lt l m
    simp only [ofTo, Nat.pow_succ]
    split <;> omega
theorem testBit_ofTo (l : List Int) : ∀ m i, m ≤ 64 → (ofTo l m).testBit i = (decide (i < m) && hasL l ((64 - m + i : Nat) : Int))
  | 0, i, _ => by simp [ofTo]
  | m + 1, i, hm => by
    have hb : (if hasL l (63 - (m : Int)) = true then 1 else 0) < 2 ^ 1 := by split <;> omega
    show (2 ^ 1 * ofTo l m + (if hasL l (63 - (m : Int)) = true then 1 else 0)).testBit i = _
    rw [Nat.testBit_two_pow_mul_add _ hb]
    by_cases h0 : i = 0
    · subst h0
      have e : ((64 - (m + 1) + 0 : Nat) : Int) = 63 - (m : Int) := by omega
      rw [e]
      cases hasL l (63 - (m : Int)) <;> simp
    · rw [if_neg (by omega), testBit_ofTo l m (i - 1) (by omega)]
      have e : 64 - m + (i - 1) = 64 - (m + 1) + i := by omega
      rw [e]
      congr 1
      simp; omega
theorem testBit_ofL (l : List Int) (i : Nat) : (ofL l).testBit i = (decide (i < 64) && hasL l (i : Int)) := by
  unfold ofL
  rw [testBit_ofTo l 64 i (by omega)]; simp
theorem isSet_ofL (l : List Int) : IsSet (ofL l) := by
  rw [isSet_iff]; exact ofTo_lt l 64
theorem ofTo_step (l : List Int) (m : Nat) (hm : m < 64) (h : hasL l (63 - (m : Int)) = true) : IntKind.u64.wrap (IntKind.u64.wrap (((ofTo l m : Nat) : Int) * 2) + 1) = ((ofTo l (m + 1) : Nat) : Int) := by
  have h1 := ofTo_lt l m
  have h2 : 2 ^ m ≤ 2 ^ 63 := Nat.pow_le_pow_right (by omega) (by omega)
  rw [IntKind.wrap_u64, IntKind.wrap_u64]
  simp only [ofTo, if_pos h]
  generalize ofTo l m = x at *
  generalize 2 ^ m = y at *
  omega
theorem ofTo_skip (l : List Int) (m : Nat) (hm : m < 64) (h : hasL l (63 - (m : Int)) = false) : IntKind.u64.wrap (((ofTo l m : Nat) : Int) * 2) = ((ofTo l (m + 1) : Nat) : Int) := by
  have h1 := ofTo_lt l m
  have h2 : 2 ^ m ≤ 2 ^ 63 := Nat.pow_le_pow_right (by omega) (by omega)
  rw [IntKind.wrap_u64]
  simp only [ofTo, h]
  generalize ofTo l m = x at *
  generalize 2 ^ m = y at *
  simp; omega
set_option maxHeartbeats 400000 in
theorem rof_any (v : Value) (l : List Int) (w : World) (hv : Ints w v l) :
    Calls Tryz.prog 99 #[v] w fun e w' => e = .returned (.int .u64 ((ofL l : Nat) : Int)) ∧ w = w' := by
  go_enter Tryz.func99, Tryz.ntmps99
  go_wp2
  go_loop [3, 4] (fun s i => ∃ m : Nat, m ≤ 64 ∧ i = .int .i64 (63 - (m : Int)) ∧ s = .int .u64 ((ofTo l m : Nat) : Int)) (fun _ i => (intOf i + 1).toNat)
  case atStart => exact ⟨0, by omega, by simp, by simp [ofTo]⟩
  case round =>
    obtain ⟨m, hm, rfl, rfl⟩ := hrel
    by_cases hlt : m < 64
    · have h63 : 0 ≤ 63 - (m : Int) := by omega
      cases hb : hasL l (63 - (m : Int))
      · have HS := Lib.hid (ofTo_skip l m hlt hb)
        have C := Lib.hid (rhas_any v l (63 - (m : Int)) w hv)
        rw [hb] at C
        clear hb
        go_wp2_with (go_at_call 78; refine (C.out).mono ?_; rintro e w' ⟨rfl, rfl⟩)
        go_round
        case rel => exact ⟨m + 1, by omega, by go_num, by rw [HS.out]⟩
        case measure => simp [intOf]; omega
      · have HS := Lib.hid (ofTo_step l m hlt hb)
        have C := Lib.hid (rhas_any v l (63 - (m : Int)) w hv)
        rw [hb] at C
        clear hb
        go_wp2_with (go_at_call 78; refine (C.out).mono ?_; rintro e w' ⟨rfl, rfl⟩)
        go_round
        case rel => exact ⟨m + 1, by omega, by go_num, by rw [HS.out]⟩
        case measure => simp [intOf]; omega
    · have hm64 : m = 64 := by omega
      subst hm64
      go_wp2
      go_ret
      exact ⟨rfl, rfl⟩

end Go.Proofs.YtfancjmhdbaoeaaGreatDoor

namespace Go.Proofs.YtfancjmhdbaoeaaGreatDoor
set_option maxRecDepth 100000
open Go.RowKit

theorem infoInt : (Tryz.prog.info? 3).map (fun i => (i.zero, i.size, i.bytes)) = some (some (.int .i64 0), 1, 8) := by kernel_rfl
theorem below_app {B : Nat} {W wr w1 : World} {o : Obj} {e : TypeId} {n size : Nat} {v : Value} {xs : List Value} (hb : Below B W wr) (hB : B ≤ W.heap.size) (hown : wr.ownsRow B e size v n xs)
    (hg : (wr.alloc o).grownBy w1 v.ownBlock) : Below B W w1 :=
  (hb.alloc (Nat.le_trans hB hb.size) o).grown hg (by have := hb.size; simp; omega) fun k hk => (hown.lt k hk).1

end Go.Proofs.YtfancjmhdbaoeaaGreatDoor

namespace Go.Proofs.YtfancjmhdbaoeaaGreatDoor
set_option maxRecDepth 100000
open Go.RowKit

theorem lst_step {S c : Nat} {acc : List Nat} (hl : lst S = acc ++ lst c) (hne : lst c ≠ []) : lst S = (acc ++ [fst c]) ++ lst (woS c (fst c : Int)) := by
  rw [hl, List.append_assoc, List.singleton_append, ← lst_cons hne]
theorem lst_less {c : Nat} (hne : lst c ≠ []) : (lst (woS c (fst c : Int))).length < (lst c).length := by
  have := congrArg List.length (lst_cons hne)
  simp at this; omega
/-- Are two lists the same? -/
def sameL (a b : List Int) : Bool := a == b
theorem take_eq_succ {a b : List Int} {k : Nat} (ha : k < a.length) (hb : k < b.length) (h : a.take k = b.take k) (hx : a[k] = b[k]) : a.take (k + 1) = b.take (k + 1) := by
  rw [List.take_succ_eq_append_getElem ha, List.take_succ_eq_append_getElem hb, h, hx]
theorem same_no {a b : List Int} {k : Nat} (ha : k < a.length) (hb : k < b.length) (hx : ¬ a[k] = b[k]) : false = sameL a b := by
  unfold sameL
  symm
  rw [beq_eq_false_iff_ne]
  rintro rfl
  exact hx rfl
theorem same_len {a b : List Int} (h : ¬ a.length = b.length) : false = sameL a b := by
  unfold sameL
  symm
  rw [beq_eq_false_iff_ne]
  rintro rfl
  exact h rfl
theorem same_yes {a b : List Int} {k : Nat} (ha : a.length ≤ k) (hb : b.length ≤ k) (h : a.take k = b.take k) : true = sameL a b := by
  rw [List.take_of_length_le ha, List.take_of_length_le hb] at h
  subst h
  simp [sameL]
set_option maxHeartbeats 1000000 in
theorem same_any (va vb : Value) (a b : List Int) (w : World) (ha : Ints w va a) (hb : Ints w vb b) :
    Calls Tryz.prog 43 #[va, vb] w fun e w' => e = .returned (.bool (sameL a b)) ∧ Below w.heap.size w w' := by
  obtain ⟨ao, cap, rfl, hal⟩ := ha.form
  obtain ⟨bo, bap, rfl, hbl⟩ := hb.form
  by_cases hlen : a.length = b.length
  · have hlb : ((a.length : Int) == (b.length : Int)) = true := by rw [beq_iff_eq]; omega
    have HL := Lib.hid hlen
    have h1 : a.length ≤ b.length := by omega
    have h2 : b.length ≤ a.length := by omega
    clear hlen
    go_enter Tryz.func43, Tryz.ntmps43
    go_wp2
    go_loopw [5] (fun i wr => ∃ k : Nat, k ≤ a.length ∧ i = .int .i64 k ∧ a.take k = b.take k ∧ Below w.heap.size w wr) (fun i _ => a.length - (intOf i).toNat)
    case atStart => exact ⟨0, by omega, rfl, by simp, Below.refl _ _⟩
    case round =>
      obtain ⟨k, hk, rfl, htk, hbw⟩ := hrel
      have HTK := Lib.hid htk
      clear htk
      by_cases hlt : k < a.length
      · have hltb : k < b.length := by omega
        have ha' : Ints _ _ _ := ha.below hbw
        have hb' : Ints _ _ _ := hb.below hbw
        obtain ⟨p, off, rfl, hc⟩ := ha'.at hlt
        obtain ⟨q, offb, rfl, hcb⟩ := hb'.at hltb
        clear ha' hb'
        have HS : Hid (a[k] = b[k] → a.take (k + 1) = b.take (k + 1)) := Lib.hid (take_eq_succ hlt hltb HTK.out)
        have HN : Hid (¬ a[k] = b[k] → false = sameL a b) := Lib.hid (same_no hlt hltb)
        generalize a[k] = x at *
        generalize b[k] = y at *
        by_cases hxy : x = y
        · have hxy' : (x == y) = true := by simpa using hxy
          have HX := Lib.hid (HS.out hxy)
          clear hxy
          go_wp2
          go_quiet (fail)
          go_wp2
          go_roundw
          case rel => exact ⟨k + 1, by omega, by go_num, HX.out, below_drewN hbw _⟩
          case measure => simp [intOf]; omega
        · have hxy' : (x == y) = false := by simpa using hxy
          have HX := Lib.hid (HN.out hxy)
          clear hxy
          go_wp2
          go_quiet (fail)
          go_wp2
          go_ret
          exact ⟨ret_b HX.out, below_drewN hbw _⟩
      · have HX := Lib.hid (same_yes (a := a) (b := b) (k := k) (by omega) (by omega) HTK.out)
        go_wp2
        go_ret
        exact ⟨ret_b HX.out, hbw⟩
  · have hlb : ((a.length : Int) == (b.length : Int)) = false := by rw [beq_eq_false_iff_ne]; omega
    have HX := Lib.hid (same_len hlen)
    clear hlen
    go_enter Tryz.func43, Tryz.ntmps43
    go_wp2
    go_ret
    exact ⟨ret_b HX.out, Below.refl _ _⟩
end Go.Proofs.YtfancjmhdbaoeaaGreatDoor

namespace Go.Proofs.YtfancjmhdbaoeaaGreatDoor
set_option maxRecDepth 100000
open Go.RowKit

theorem ints_nat (l : List Nat) : (l.map fun i : Nat => Value.int .i64 (i : Int)) = (l.map Int.ofNat).map (Value.int .i64) := by rw [List.map_map]; rfl
theorem Ints.of_nats {w : World} {base : Nat} {e : TypeId} {v : Value} {n : Nat} {l : List Nat} (h : w.ownsRow base e 1 v n (l.map fun i : Nat => Value.int .i64 (i : Int))) : Ints w v (l.map Int.ofNat) := by
  rw [ints_nat] at h; exact Ints.of_owns h

end Go.Proofs.YtfancjmhdbaoeaaGreatDoor

namespace Go.Proofs.YtfancjmhdbaoeaaGreatDoor
set_option maxRecDepth 100000
open Go.RowKit

def mayB (n : Int) : Bool := decide (0 ≤ n ∧ n < 64)
set_option maxHeartbeats 400000 in
theorem rmayn_any (n : Int) (w : World) :
    Calls Tryz.prog 128 #[.int .i64 n] w fun e w' => e = .returned (.bool (mayB n)) ∧ w = w' := by
  have H : Hid ((decide (0 ≤ n) && decide (n < 64)) = mayB n) := Lib.hid (by unfold mayB; simp)
  by_cases h0 : 0 ≤ n
  · have H1 : Hid (decide (n < 64) = mayB n) := Lib.hid (by rw [← H.out]; simp [h0])
    go_enter Tryz.func128, Tryz.ntmps128
    go_wp2
    go_ret
    exact ⟨ret_b H1.out, rfl⟩
  · have H1 : Hid (false = mayB n) := Lib.hid (by rw [← H.out]; simp [h0])
    go_enter Tryz.func128, Tryz.ntmps128
    go_wp2
    go_ret
    exact ⟨ret_b H1.out, rfl⟩
theorem may_yes (n : Int) (w : World) (h : 0 ≤ n ∧ n < 64) : Calls Tryz.prog 128 #[.int .i64 n] w fun e w' => e = .returned (.bool true) ∧ w = w' := by
  have := rmayn_any n w
  rwa [show mayB n = true from by unfold mayB; simp [h]] at this
theorem may_no (n : Int) (w : World) (h : ¬ (0 ≤ n ∧ n < 64)) : Calls Tryz.prog 128 #[.int .i64 n] w fun e w' => e = .returned (.bool false) ∧ w = w' := by
  have := rmayn_any n w
  rwa [show mayB n = false from by unfold mayB; simp [h]] at this

/-- Does a stand to b, of any numbers? -/
def hasR (R : Mat) (a b : Int) : Bool := mayB a && hasB (mkS (R a.toNat)) b
set_option maxHeartbeats 400000 in
theorem rhasR_any (R : Mat) (a b : Int) (w : World) :
    Calls Tryz.prog 64 #[.agg (rowsA R), .int .i64 a, .int .i64 b] w fun e w' => e = .returned (.bool (hasR R a b)) ∧ Below w.heap.size w w' := by
  by_cases ha : 0 ≤ a ∧ a < 64
  · obtain ⟨i, rfl⟩ := Int.eq_ofNat_of_zero_le ha.1
    have hi : i < 64 := by omega
    have CM := Lib.hid (fun wx => may_yes (i : Int) wx ha)
    have HR : Hid (hasB (mkS (R i)) b = hasR R (i : Int) b) := Lib.hid (by unfold hasR mayB; simp [ha])
    have hc := (RelAt.new w 37 R).cell hi
    have hset := isSet_mkS (R i)
    clear ha
    generalize mkS (R i) = s at *
    go_enter Tryz.func64, Tryz.ntmps64
    go_wp2_with (first
      | (go_at_call 128; refine (CM.out _).mono ?_; rintro e w' ⟨rfl, rfl⟩)
      | (go_at_call 92; refine (has_any s b _ hset).mono ?_; rintro e w' ⟨rfl, rfl⟩))
    go_ret
    exact ⟨ret_b HR.out, (Below.refl _ _).alloc (Nat.le_refl _) _⟩
  · have CM := Lib.hid (fun wx => may_no a wx ha)
    have HR : Hid (false = hasR R a b) := Lib.hid (by unfold hasR mayB; simp [ha])
    clear ha
    go_enter Tryz.func64, Tryz.ntmps64
    go_wp2_with (go_at_call 128; refine (CM.out _).mono ?_; rintro e w' ⟨rfl, rfl⟩)
    go_ret
    exact ⟨ret_b HR.out, (Below.refl _ _).alloc (Nat.le_refl _) _⟩

theorem infoRel : (Tryz.prog.info? 37).map (·.size) = some 64 := by kernel_rfl
theorem infoRel' (R : Mat) : (Tryz.prog.info? 37).map (·.size) = some (rowsA R).size := by rw [rowsA_size]; exact infoRel
theorem rows_one (R : Mat) : (rowsA R).all (·.oneCell') = true := by
  rw [Array.all_eq_true_iff_forall_mem]
  intro v hv
  have : v ∈ (rowsA R).toList := by simpa using hv
  simp only [rowsA, List.toList_toArray, List.mem_map] at this
  obtain ⟨i, _, rfl⟩ := this
  rfl
theorem RelAt.setRow {w : World} {g : Nat} {t : TypeId} {R : Mat} (h : RelAt w g t R) (S : Mat) : RelAt (w.setRow g (rowsA S)) g t S := setRow_heap w g _ _ t _ h
/-- A whole relation read out of its block, and written into one. -/
theorem wpList_load_rel {ops : Array Oper} {rest : List Oper} {o : Oper} {a : Act} {w : World} {Q : Exit → Act → World → Prop} {g : Nat} {R : Mat} (h : RelAt w g 37 R) (hgd : o.guard = none) (x : Operand) (ho : o.op = .load 37 x)
    (hx : a.eval x = .pointer (some ⟨g, 0, none⟩)) (hn : wpList Tryz.prog ops Q rest (a.put o.dst (.agg (rowsA R))) w) : wpList Tryz.prog ops Q (o :: rest) a w :=
  wpList_load_row hgd 37 x ho g hx _ (rowsA R) _ _ h Tryz.underlying37 rfl (infoRel' _) hn
theorem wpList_store_rel {ops : Array Oper} {rest : List Oper} {o : Oper} {a : Act} {w : World} {Q : Exit → Act → World → Prop} {g : Nat} {S : Mat} (h : RelAt w g 37 S) (R : Mat) (hgd : o.guard = none) (x y : Operand) (ho : o.op = .store 37 x y)
    (hx : a.eval x = .pointer (some ⟨g, 0, none⟩)) (hy : a.eval y = .agg (rowsA R)) (hn : wpList Tryz.prog ops Q rest (a.put o.dst undef) (w.setRow g (rowsA R))) : wpList Tryz.prog ops Q (o :: rest) a w :=
  wpList_store_row hgd 37 x y ho g (rowsA R) hx hy _ _ h (infoRel' _) (by rw [rowsA_size, rowsA_size]) (rows_one _) hn
theorem results_rel {fn : Func} {p : Tmp} (h : fn.results = #[.cell p 37]) (tmps : Array Value) (w : World) (g : Nat) (R : Mat)
    (hp : tmps.getD p undef = .pointer (some ⟨g, 0, none⟩)) (hg : RelAt w g 37 R) : (results fn tmps).run Tryz.prog w = .ok (.agg (rowsA R)) w :=
  results_cell_row h tmps w g _ (rowsA R) _ _ hp hg Tryz.underlying37 rfl (infoRel' _)
def orR (R S : Mat) : Mat := fun i j => R i j || S i j
/-- The union, done for the rows below k. -/
def orTo (R S : Mat) (k : Nat) : Mat := fun i j => if i < k then R i j || S i j else R i j
theorem mkS_or (p q : Nat → Bool) : mkS p ||| mkS q = mkS fun j => p j || q j := by
  apply mkS_eq (isSet_or (isSet_mkS p) (isSet_mkS q))
  intro i hi
  rw [Nat.testBit_or, testBit_mkS, testBit_mkS]; simp [hi]
theorem orTo_step (R S : Mat) (k : Nat) : rowSet (orTo R S k) k (fun j => R k j || S k j) = orTo R S (k + 1) := by
  funext i j
  unfold rowSet orTo
  by_cases h : i = k
  · subst h; simp
  · rw [if_neg h]
    by_cases h2 : i < k
    · rw [if_pos h2, if_pos (by omega)]
    · rw [if_neg h2, if_neg (by omega)]
theorem orTo_at (R S : Mat) (k : Nat) : orTo R S k k = R k := by funext j; unfold orTo; rw [if_neg (by omega)]
theorem orTo_end (R S : Mat) : rowsA (orTo R S 64) = rowsA (orR R S) := rowsA_congr fun i j hi _ => by unfold orTo orR; rw [if_pos hi]
theorem u64_or (p q : Nat → Bool) : Go.bits .or .u64 ((mkS p : Nat) : Int) ((mkS q : Nat) : Int) = ((mkS (fun j => p j || q j) : Nat) : Int) := by
  rw [Go.bits_or_u64_nat _ _ (isSet_mkS p) (isSet_mkS q), mkS_or]
set_option maxHeartbeats 1000000 in
theorem union_any (R S : Mat) (w : World) :
    Calls Tryz.prog 117 #[.agg (rowsA R), .agg (rowsA S)] w fun e w' => e = .returned (.agg (rowsA (orR R S))) ∧ Below w.heap.size w w' := by
  go_enter Tryz.func117, Tryz.ntmps117
  go_wp2
  go_loopw [6] (fun i wr => ∃ k : Nat, k ≤ 64 ∧ i = .int .i64 k ∧ RelAt wr w.heap.size 37 (orTo R S k) ∧ RelAt wr (w.heap.size + 1) 37 S ∧ RelAt wr (w.heap.size + 2) 37 noR ∧ Below w.heap.size w wr)
    (fun i _ => 64 - (intOf i).toNat)
  case atStart =>
    have e0 : rowsA R = rowsA (orTo R S 0) := rowsA_congr fun i j _ _ => by unfold orTo; rw [if_neg (by omega)]
    refine ⟨0, by omega, rfl, ?_, ?_, ?_, ?_⟩
    · exact ((RelAt.made w _ (orTo R S 0) rfl e0).alloc _).alloc _
    · exact (RelAt.made _ _ S (by simp) rfl).alloc _
    · exact RelAt.made _ _ noR (by simp) (by rw [rowsA_none]; rfl)
    · exact (((Below.refl w.heap.size w).alloc (Nat.le_refl _) _).alloc (by simp) _).alloc (by simp; omega) _
  case round =>
    obtain ⟨k, hk, rfl, h0, h1, h2, hb⟩ := hrel
    by_cases hlt : k < 64
    · have hc0 := h0.cell hlt
      have hc1 := h1.cell hlt
      rw [orTo_at] at hc0
      have hf := h0.free k
      have HO := u64_or (R k) (S k)
      have HS := Lib.hid (orTo_step R S k)
      have HN := Lib.hid (h0.store k _ (fun j => R k j || S k j) rfl)
      have H1 := Lib.hid (h1.other (k := ⟨w.heap.size, k, none⟩) (by simp) (.int .u64 ((mkS (fun j => R k j || S k j) : Nat) : Int)))
      have H2 := Lib.hid (h2.other (k := ⟨w.heap.size, k, none⟩) (by simp) (.int .u64 ((mkS (fun j => R k j || S k j) : Nat) : Int)))
      have HB := Lib.hid (hb.setCell (p := ⟨w.heap.size, k, none⟩) (Nat.le_refl _) (.int .u64 ((mkS (fun j => R k j || S k j) : Nat) : Int)))
      clear h0 h1 h2 hb
      generalize mkS (fun j => R k j || S k j) = z at *
      generalize mkS (R k) = x at *
      generalize mkS (S k) = y at *
      go_wp2
      go_still_tail 8, (by kernel_rfl)
      go_wp2
      go_roundw
      case rel => exact ⟨k + 1, by omega, by go_num, by rw [← HS.out]; exact HN.out, H1.out, H2.out, HB.out.drew⟩
      case measure => simp [intOf]; omega
    · have hk64 : k = 64 := by omega
      subst hk64
      go_wp2_with (first
        | (with_reducible refine wpList_load_rel h0 rfl _ rfl rfl ?_)
        | (with_reducible refine wpList_store_rel h2 (orTo R S 64) rfl _ _ rfl rfl rfl ?_))
      have h3 := h2.setRow (orTo R S 64)
      rw [orTo_end] at h3
      exact bodyPost_ret (results_rel rfl _ _ _ _ rfl h3) rfl ⟨rfl, below_setRow hb (by omega) _⟩
end Go.Proofs.YtfancjmhdbaoeaaGreatDoor

namespace Go.Proofs.YtfancjmhdbaoeaaGreatDoor
set_option maxRecDepth 100000
open Go.RowKit

theorem hasB_mkS (p : Nat → Bool) (n : Nat) (hn : n < 64) : hasB (mkS p) (n : Int) = p n := by
  unfold hasB
  have h : 0 ≤ (n : Int) ∧ (n : Int) < 64 := by omega
  rw [Int.toNat_natCast, testBit_mkS]
  simp [h, hn]
end Go.Proofs.YtfancjmhdbaoeaaGreatDoor

namespace Go.Proofs.YtfancjmhdbaoeaaGreatDoor
set_option maxRecDepth 100000
open Go.RowKit

theorem withS_mkS (q : Nat → Bool) (a : Nat) (ha : a < 64) : withS (mkS q) (a : Int) = mkS fun j => q j || decide (j = a) := by
  apply mkS_eq (isSet_withS (isSet_mkS q))
  intro i hi
  rw [testBit_withS, testBit_mkS]
  have h : 0 ≤ (a : Int) ∧ (a : Int) < 64 := by omega
  simp only [hi, h, decide_true, Bool.true_and, and_self, Int.toNat_natCast]
  congr 1
  rw [Bool.eq_iff_iff]; simp; exact ⟨fun h => h.symm, fun h => h.symm⟩
end Go.Proofs.YtfancjmhdbaoeaaGreatDoor

namespace Go.Proofs.YtfancjmhdbaoeaaGreatDoor
set_option maxRecDepth 100000
open Go.RowKit

def thenR (R S : Mat) : Mat := fun i j => (List.range 64).any fun m => R i m && S m j
end Go.Proofs.YtfancjmhdbaoeaaGreatDoor

namespace Go.Proofs.YtfancjmhdbaoeaaGreatDoor
set_option maxRecDepth 100000

/-- What must be seen: what there is at the start, and what follows. -/
inductive Must (S A : Mat) (tr pf : Bool) : Nat → Nat → Prop
  | base {i j : Nat} : S i j = true → Must S A tr pf i j
  | trans {i m j : Nat} : tr = true → m < 64 → Must S A tr pf i m → Must S A tr pf m j → Must S A tr pf i j
  | pre {i m j : Nat} : pf = true → m < 64 → A i m = true → Must S A tr pf m j → Must S A tr pf i j
def moreT (V : Mat) (tr : Bool) : Mat := if tr then clo V else V
def moreM (V A : Mat) (tr pf : Bool) : Mat := if pf then orR (moreT V tr) (thenR A (moreT V tr)) else moreT V tr
section
variable {S A V : Mat} {tr pf : Bool}
theorem path_must (ht : tr = true) (hV : ∀ i j, i < 64 → j < 64 → V i j = true → Must S A tr pf i j) {i j : Nat} (h : Path V i j) (hi : i < 64) (hj : j < 64) : Must S A tr pf i j := by
  induction h with
  | one h => exact hV _ _ hi hj h
  | more h h2 _ ih => exact .trans ht h2 (hV _ _ hi h2 h) (ih h2 hj)
theorem moreT_sound (hV : ∀ i j, i < 64 → j < 64 → V i j = true → Must S A tr pf i j) (i j : Nat) (hi : i < 64) (hj : j < 64) (h : moreT V tr i j = true) : Must S A tr pf i j := by
  cases tr with
  | false => exact hV i j hi hj h
  | true => exact path_must rfl hV ((clo_iff V i j).1 h) hi hj
theorem thenR_iff (R S : Mat) (i j : Nat) : thenR R S i j = true ↔ ∃ m, m < 64 ∧ R i m = true ∧ S m j = true := by
  unfold thenR
  rw [List.any_eq_true]
  constructor
  · rintro ⟨m, hm, h⟩
    rw [Bool.and_eq_true] at h
    exact ⟨m, List.mem_range.1 hm, h.1, h.2⟩
  · rintro ⟨m, hm, h1, h2⟩
    exact ⟨m, List.mem_range.2 hm, by rw [h1, h2]; rfl⟩
theorem orR_iff (R S : Mat) (i j : Nat) : orR R S i j = true ↔ R i j = true ∨ S i j = true := by
  unfold orR; rw [Bool.or_eq_true]
theorem moreM_sound (hV : ∀ i j, i < 64 → j < 64 → V i j = true → Must S A tr pf i j) (i j : Nat) (hi : i < 64) (hj : j < 64) (h : moreM V A tr pf i j = true) : Must S A tr pf i j := by
  cases pf with
  | false => exact moreT_sound hV i j hi hj h
  | true =>
    rcases (orR_iff _ _ _ _).1 h with h | h
    · exact moreT_sound hV i j hi hj h
    · obtain ⟨m, hm, h1, h2⟩ := (thenR_iff _ _ _ _).1 h
      exact .pre rfl hm h1 (moreT_sound hV m j hm hj h2)
theorem moreT_grows {i j : Nat} (h : V i j = true) : moreT V tr i j = true := by
  cases tr with
  | false => exact h
  | true => exact cloTo_sub V i j h 64
theorem moreM_grows {i j : Nat} (h : V i j = true) : moreM V A tr pf i j = true := by
  cases pf with
  | false => exact moreT_grows h
  | true => exact (orR_iff _ _ _ _).2 (.inl (moreT_grows h))
theorem more_done (hS : ∀ i j, i < 64 → j < 64 → S i j = true → V i j = true) (hf : rowsA (moreM V A tr pf) = rowsA V) {i j : Nat} (h : Must S A tr pf i j) (hi : i < 64) (hj : j < 64) : V i j = true := by
  induction h with
  | base h => exact hS _ _ hi hj h
  | @trans i m j ht hm _ _ ih1 ih2 =>
    rw [← rowsA_inj hf i j hi hj]
    have hp : moreT V tr i j = true := by
      rw [ht]
      exact (clo_iff V i j).2 ((Path.one (ih1 hi hm)).trans hm (.one (ih2 hm hj)))
    cases pf with
    | false => exact hp
    | true => exact (orR_iff _ _ _ _).2 (.inl hp)
  | @pre i m j hp hm ha _ ih =>
    rw [← rowsA_inj hf i j hi hj]
    rw [hp]
    exact (orR_iff _ _ _ _).2 (.inr ((thenR_iff _ _ _ _).2 ⟨m, hm, ha, moreT_grows (ih hm hj)⟩))
end
theorem filter_le {α : Type} {p q : α → Bool} : ∀ (l : List α), (∀ a ∈ l, p a = true → q a = true) → (l.filter p).length ≤ (l.filter q).length
  | [], _ => by simp
  | a :: l, h => by
    have ih := filter_le l (fun b hb => h b (List.mem_cons_of_mem _ hb))
    have ha := h a List.mem_cons_self
    cases hp : p a with
    | true => rw [List.filter_cons_of_pos hp, List.filter_cons_of_pos (ha hp)]; simpa using ih
    | false =>
      rw [List.filter_cons_of_neg (by simp [hp])]
      cases hq : q a with
      | true => rw [List.filter_cons_of_pos hq]; simp; omega
      | false => rw [List.filter_cons_of_neg (by simp [hq])]; exact ih
theorem filter_lt {α : Type} {p q : α → Bool} : ∀ (l : List α), (∀ a ∈ l, p a = true → q a = true) → ∀ x ∈ l, q x = true → p x = false → (l.filter p).length < (l.filter q).length
  | [], _, _, hx, _, _ => by cases hx
  | a :: l, h, x, hx, hq, hp => by
    have h2 := fun b hb => h b (List.mem_cons_of_mem a hb)
    rcases List.mem_cons.1 hx with rfl | hx
    · rw [List.filter_cons_of_neg (by simp [hp]), List.filter_cons_of_pos hq]
      have := filter_le l h2
      simp; omega
    · have ih := filter_lt l h2 x hx hq hp
      have ha := h a List.mem_cons_self
      cases hp1 : p a with
      | true => rw [List.filter_cons_of_pos hp1, List.filter_cons_of_pos (ha hp1)]; simpa using ih
      | false =>
        rw [List.filter_cons_of_neg (by simp [hp1])]
        cases hq1 : q a with
        | true => rw [List.filter_cons_of_pos hq1]; simp; omega
        | false => rw [List.filter_cons_of_neg (by simp [hq1])]; exact ih
/-- How many pairs there are. -/
def cntP (R : Mat) : Nat := ((List.range 4096).filter fun n => R (n / 64) (n % 64)).length
theorem cntP_lt {R S : Mat} (h : ∀ i j, R i j = true → S i j = true) (hne : rowsA R ≠ rowsA S) : cntP R < cntP S := by
  by_cases hx : ∃ i j, i < 64 ∧ j < 64 ∧ S i j = true ∧ R i j = false
  · obtain ⟨i, j, hi, hj, h1, h2⟩ := hx
    have e1 : (i * 64 + j) / 64 = i := by omega
    have e2 : (i * 64 + j) % 64 = j := by omega
    exact filter_lt _ (fun n _ hn => h _ _ hn) (i * 64 + j) (List.mem_range.2 (by omega)) (by rw [e1, e2]; exact h1) (by rw [e1, e2]; exact h2)
  · refine absurd (rowsA_congr fun i j hi hj => ?_) hne
    cases hr : R i j with
    | true => exact (h i j hr).symm
    | false =>
      cases hs : S i j with
      | true => exact absurd ⟨i, j, hi, hj, hs, hr⟩ hx
      | false => rfl
end Go.Proofs.YtfancjmhdbaoeaaGreatDoor

namespace Go.Proofs.YtfancjmhdbaoeaaGreatDoor
set_option maxRecDepth 100000
open Go.RowKit

/-- The number is an int. -/
abbrev InI (x : Int) : Prop := (Lit.int .i64 x).wf = true
open Classical in
/-- An element's reader: the element itself, where it is of the right shape. -/
noncomputable def rdE {α : Type} (e : α → Value) (v : Value) : Option (DataW Value × List MemPlace) := if ∃ a, v = e a then some (.held v, []) else none
theorem rdE_mk {α : Type} (e : α → Value) (a : α) : rdE e (e a) = some (.held (e a), []) := by
  unfold rdE; rw [if_pos ⟨a, rfl⟩]
theorem rdE_inv {α : Type} {e : α → Value} {v : Value} {y : DataW Value × List MemPlace} (h : rdE e v = some y) : ∃ a, v = e a ∧ y = (.held (e a), []) := by
  unfold rdE at h
  split at h
  · rename_i hv
    obtain ⟨a, rfl⟩ := hv
    exact ⟨a, rfl, (Option.some.inj h).symm⟩
  · cases h
/-- What a map as read says at each int. -/
def Tells {α : Type} (e : α → Value) (D : DataW Value) (f : Int → Option α) : Prop :=
  ∀ x, InI x → Maps.has D (.int .i64 x) = (f x).isSome ∧ ∀ a, f x = some a → ∀ z, D.atKey (.int .i64 x) z = .held (e a)
/-- Block b is a map of c entries, which has at each int x what f says. -/
def MapI {α : Type} (e : α → Value) (P : Program) (k : TypeId) (w : World) (b n : Nat) (f : Int → Option α) (c : Nat) : Prop :=
  ∃ D, w.ownsMap P k (rdE e) b n D ∧ Maps.size D = c ∧ Tells e D f
theorem MapI.made {α : Type} (e : α → Value) (P : Program) (k : TypeId) (w : World) : MapI e P k (w.alloc (.map #[] 0)) w.heap.size 0 (fun _ => none) 0 :=
  ⟨_, World.ownsMap_made w P k (rdE e), rfl, fun _ _ => ⟨rfl, fun _ h => by cases h⟩⟩
section
variable {α : Type} {e : α → Value} {P : Program} {k : TypeId} {w : World} {b n : Nat} {f : Int → Option α} {c : Nat}
theorem MapI.lt (h : MapI e P k w b n f c) : b < w.heap.size := by obtain ⟨D, h, _⟩ := h; exact h.lt
theorem MapI.mono (h : MapI e P k w b n f c) {n' : Nat} (hn : n ≤ n') : MapI e P k w b n' f c := by
  obtain ⟨D, h, r⟩ := h; exact ⟨D, h.mono hn, r⟩
theorem MapI.kept {w' : World} {row : Option Nat} (h : MapI e P k w b n f c) (hg : w.grownBy w' row) (hne : some b ≠ row) : MapI e P k w' b n f c := by
  obtain ⟨D, h, r⟩ := h; exact ⟨D, h.kept hg hne, r⟩
theorem MapI.below {w' : World} (h : MapI e P k w b n f c) (hb : Below w.heap.size w w') : MapI e P k w' b n f c :=
  h.kept (row := none) ⟨hb.os, hb.tape, hb.output, hb.size, fun j hj _ => hb.block j hj⟩ (by simp)
theorem MapI.alloc (h : MapI e P k w b n f c) (o : Obj) : MapI e P k (w.alloc o) b n f c := by
  obtain ⟨D, h, r⟩ := h; exact ⟨D, h.alloc o, r⟩
theorem MapI.ext {g : Int → Option α} (h : MapI e P k w b n f c) (hg : ∀ x, InI x → f x = g x) : MapI e P k w b n g c := by
  obtain ⟨D, h, hs, ht⟩ := h
  exact ⟨D, h, hs, fun x hx => by rw [← hg x hx]; exact ht x hx⟩
theorem keyOf_I (hk : P.underlying k = some (.int .i64)) {x : Int} (hx : InI x) : keyOf P k (.int .i64 x) = some (.int .i64 x) := Maps.keyOf_int_mk hk hx
theorem isKey_I (x : Int) : WideAt.IsKeyLit (.int .i64 x) := trivial
end
section
variable {α : Type} {e : α → Value} {P : Program} (w : World) {ops : Array Oper} {rest : List Oper} {o : Oper} {a : Act} {Q : Exit → Act → World → Prop}
theorem lookI_run {k el t : TypeId} {b n c : Nat} {f : Int → Option α} {w : World} (cm : Bool) (hk : P.underlying k = some (.int .i64)) (ht : P.underlying t = some (.map k el)) (a0 : α) (hz : (zeroValue el).run P w = .ok (e a0) w)
    (hown : MapI e P k w b n f c) {key : Int} (hkey : InI key) :
    (Instr.lookup t (.map (some b)) (.int .i64 key) cm).run P w = .ok (if cm then .tuple #[e ((f key).getD a0), .bool (f key).isSome] else e ((f key).getD a0)) w := by
  obtain ⟨D, hD, _, ht2⟩ := hown
  obtain ⟨hh, hat⟩ := ht2 key hkey
  have K := Maps.int_keyed hk
  cases cm
  · obtain ⟨v, ps, hrun, hv⟩ := hD.lookup K ht hz (rdE_mk e a0) (keyOf_I hk hkey)
    obtain ⟨x, rfl, hy⟩ := rdE_inv hv
    have hy := congrArg Prod.fst hy
    simp only at hy
    rw [hrun]
    cases hf : f key with
    | none =>
      rw [hf] at hh
      rw [Maps.atKey_of_not_has hh] at hy
      simp [DataW.held.inj hy]
    | some u =>
      rw [hat u hf] at hy
      simp [DataW.held.inj hy]
  · obtain ⟨v, ps, hrun, hv⟩ := hD.look_ok K ht hz (rdE_mk e a0) (keyOf_I hk hkey)
    obtain ⟨x, rfl, hy⟩ := rdE_inv hv
    have hy := congrArg Prod.fst hy
    simp only at hy
    rw [hrun, hh]
    cases hf : f key with
    | none =>
      rw [hf] at hh
      rw [Maps.atKey_of_not_has hh] at hy
      simp [DataW.held.inj hy]
    | some u =>
      rw [hat u hf] at hy
      simp [DataW.held.inj hy]
/-- 'v, ok := m[k]'. -/
theorem wpList_lookI_ok (hg : o.guard = none) (m x : Operand) (t : TypeId) (hop : o.op = Op.lookup t m x true) (k el : TypeId) (hk : P.underlying k = some (.int .i64)) (ht : P.underlying t = some (.map k el)) (a0 : α) (hz : (zeroValue el).run P w = .ok (e a0) w)
    (b n c : Nat) (f : Int → Option α) (hm : a.eval m = .map (some b)) (hown : MapI e P k w b n f c) (key : Int) (hx : a.eval x = .int .i64 key) (hkey : InI key)
    (hK : wpList P ops Q rest (a.put o.dst (.tuple #[e ((f key).getD a0), .bool (f key).isSome])) w) : wpList P ops Q (o :: rest) a w := by
  refine wpList_plain hg fun K' hK' => ?_
  have hrun := lookI_run true hk ht a0 hz hown hkey
  unfold Oper.wp
  simp only [if_true] at hrun
  simp [execOp, hop, hm, hx, hrun, Result.andThen]
  exact hK' _ _ hK
/-- 'm[k]'. -/
theorem wpList_lookI (hg : o.guard = none) (m x : Operand) (t : TypeId) (hop : o.op = Op.lookup t m x false) (k el : TypeId) (hk : P.underlying k = some (.int .i64)) (ht : P.underlying t = some (.map k el)) (a0 : α) (hz : (zeroValue el).run P w = .ok (e a0) w)
    (b n c : Nat) (f : Int → Option α) (hm : a.eval m = .map (some b)) (hown : MapI e P k w b n f c) (key : Int) (hx : a.eval x = .int .i64 key) (hkey : InI key)
    (hK : wpList P ops Q rest (a.put o.dst (e ((f key).getD a0))) w) : wpList P ops Q (o :: rest) a w := by
  refine wpList_plain hg fun K' hK' => ?_
  have hrun := lookI_run false hk ht a0 hz hown hkey
  unfold Oper.wp
  simp only [Bool.false_eq_true, if_false] at hrun
  simp [execOp, hop, hm, hx, hrun, Result.andThen]
  exact hK' _ _ hK
def putF (f : Int → Option α) (key : Int) (val : α) : Int → Option α := fun y => if y = key then some val else f y
theorem putF_same (f : Int → Option α) (key : Int) (val : α) : putF f key val key = some val := by simp [putF]
theorem putF_other (f : Int → Option α) {key y : Int} (val : α) (h : y ≠ key) : putF f key val y = f y := by simp [putF, h]
/-- 'm[k] = v'. -/
theorem wpList_putI (hg : o.guard = none) (m x v : Operand) (t : TypeId) (hop : o.op = Op.mapUpdate t m x v) (k el : TypeId) (hk : P.underlying k = some (.int .i64)) (ht : P.underlying t = some (.map k el))
    (b n c : Nat) (f : Int → Option α) (hm : a.eval m = .map (some b)) (hown : MapI e P k w b n f c) (hn : n < maxLen) (key : Int) (hx : a.eval x = .int .i64 key) (hkey : InI key) (val : α) (hv : a.eval v = e val)
    (hK : ∀ w', MapI e P k w' b (n + 1) (putF f key val) (if (f key).isSome then c else c + 1) → w.grownBy w' (some b) → wpList P ops Q rest (a.put o.dst undef) w') : wpList P ops Q (o :: rest) a w := by
  obtain ⟨D, hD, hs, ht2⟩ := hown
  refine wpList_mapUpdate_own w hg m x v t hop k el (Maps.int_keyed hk) ht (rdE e) b n D hm hD hn _ _ _ hx hv (keyOf_I hk hkey) _ [] (rdE_mk e val) fun w' h1 h2 => hK w' ⟨_, h1, ?_, fun y hy => ?_⟩ h2
  · rw [Maps.size_put (hD.tidy (Maps.int_keyed hk)), (ht2 key hkey).1, hs]
  · by_cases he : y = key
    · subst he
      rw [putF_same]
      exact ⟨Maps.has_put_same hD.isMap (isKey_I y) _, fun u hu z => by cases hu; exact Maps.atKey_put_same hD.isMap (isKey_I y) _ _⟩
    · have hne : Lit.int .i64 y ≠ .int .i64 key := fun h => he (by cases h; rfl)
      rw [putF_other f val he]
      exact ⟨(Maps.has_put_other hne _).trans (ht2 y hy).1, fun u hu z => (Maps.atKey_put_other hne _ _).trans ((ht2 y hy).2 u hu z)⟩
/-- A range over a map under way: 'left x': is the entry at x still to come? -/
def RangeI (e : α → Value) (P : Program) (k : TypeId) (w : World) (b r n : Nat) (f : Int → Option α) (left : Int → Bool) (cnt : Nat) : Prop :=
  ∃ D L, w.ranges P k (rdE e) b r n D L cnt ∧ Tells e D f ∧ ∀ x, InI x → L (.int .i64 x) = left x
theorem RangeI.owns {k : TypeId} {b r n cnt : Nat} {f : Int → Option α} {left : Int → Bool} {w : World} (h : RangeI e P k w b r n f left cnt) : ∃ c, MapI e P k w b n f c := by
  obtain ⟨D, L, h, ht, _⟩ := h
  exact ⟨_, D, h.owns, rfl, ht⟩
theorem RangeI.ne {k : TypeId} {b r n cnt : Nat} {f : Int → Option α} {left : Int → Bool} {w : World} (h : RangeI e P k w b r n f left cnt) : r ≠ b := by
  obtain ⟨D, L, h, _⟩ := h; exact h.ne
theorem RangeI.lt {k : TypeId} {b r n cnt : Nat} {f : Int → Option α} {left : Int → Bool} {w : World} (h : RangeI e P k w b r n f left cnt) : r < w.heap.size := by
  obtain ⟨D, L, h, _⟩ := h; exact h.lt
theorem RangeI.left_eq {k : TypeId} {b r n cnt : Nat} {f : Int → Option α} {left : Int → Bool} {w : World} (h : RangeI e P k w b r n f left cnt) : w.rangeLeft b r = cnt := by
  obtain ⟨D, L, h, _⟩ := h; exact h.left_eq
theorem RangeI.kept {k : TypeId} {b r n cnt : Nat} {f : Int → Option α} {left : Int → Bool} {w w' : World} {row : Option Nat} (h : RangeI e P k w b r n f left cnt) (hg : w.grownBy w' row) (hb : some b ≠ row) (hr : some r ≠ row) : RangeI e P k w' b r n f left cnt := by
  obtain ⟨D, L, h, q⟩ := h; exact ⟨D, L, h.kept hg hb hr, q⟩
theorem RangeI.alloc {k : TypeId} {b r n cnt : Nat} {f : Int → Option α} {left : Int → Bool} {w : World} (h : RangeI e P k w b r n f left cnt) (o : Obj) : RangeI e P k (w.alloc o) b r n f left cnt := by
  obtain ⟨D, L, h, q⟩ := h; exact ⟨D, L, h.alloc o, q⟩
theorem RangeI.below {k : TypeId} {b r n cnt : Nat} {f : Int → Option α} {left : Int → Bool} {w w' : World} (h : RangeI e P k w b r n f left cnt) (hb : Below w.heap.size w w') : RangeI e P k w' b r n f left cnt :=
  h.kept (row := none) ⟨hb.os, hb.tape, hb.output, hb.size, fun j hj _ => hb.block j hj⟩ (by simp) (by simp)
/-- 'range m'. -/
theorem wpList_rangeI (hg : o.guard = none) (m : Operand) (t : TypeId) (hop : o.op = Op.range t m) (k el : TypeId) (hk : P.underlying k = some (.int .i64)) (ht : P.underlying t = some (.map k el)) (b n c : Nat) (f : Int → Option α)
    (hm : a.eval m = .map (some b)) (hown : MapI e P k w b n f c)
    (hK : ∀ w', RangeI e P k w' b w.heap.size n f (fun x => (f x).isSome) c → w.grownBy w' none → w'.heap.size = w.heap.size + 1 → wpList P ops Q rest (a.put o.dst (.pointer (some ⟨w.heap.size, 0, none⟩))) w') :
    wpList P ops Q (o :: rest) a w := by
  obtain ⟨D, hD, hs, ht2⟩ := hown
  refine wpList_range_own w hg m t hop k el (Maps.int_keyed hk) ht (rdE e) b n D hm hD fun w' h1 h2 h3 => hK w' ⟨D, _, hs ▸ h1, ht2, fun x hx => (ht2 x hx).1⟩ h2 h3
/-- The step of a range. -/
theorem wpList_nextI (hg : o.guard = none) (it : Operand) (hop : o.op = Op.next it false) (k : TypeId) (hk : P.underlying k = some (.int .i64)) (hinj : ∀ x y : α, e x = e y → x = y)
    (b r n : Nat) (f : Int → Option α) (left : Int → Bool) (cnt : Nat) (hit : a.eval it = .pointer (some ⟨r, 0, none⟩)) (h : RangeI e P k w b r n f left cnt)
    (hDone : cnt = 0 → (∀ x, InI x → left x = false) → wpList P ops Q rest (a.put o.dst (.tuple #[.bool false])) w)
    (hMore : ∀ (x : Int) (u : α) (w' : World) (cnt' : Nat), InI x → left x = true → f x = some u → RangeI e P k w' b r n f (fun y => left y && !decide (y = x)) cnt' → cnt' < cnt →
      w.grownBy w' (some r) → w'.heap.size = w.heap.size → (Instr.entry (.pointer (some ⟨r, 0, none⟩))).run P w' = .ok (.tuple #[.int .i64 x, e u]) w' → wpList P ops Q rest (a.put o.dst (.tuple #[.bool true, .int .i64 x, e u])) w') :
    wpList P ops Q (o :: rest) a w := by
  obtain ⟨D, L, hr, ht2, hL⟩ := h
  refine wpList_next_ranges w hg it hop k (Maps.int_keyed hk) (rdE e) (Value.int .i64) e (fun key kl hkey => by obtain ⟨x, rfl, _⟩ := Maps.keyOf_int_inv hk hkey; exact ⟨x, rfl⟩) (fun v y hv => by obtain ⟨c, rfl, _⟩ := rdE_inv hv; exact ⟨c, rfl⟩)
    b r n D L cnt hit hr (fun h0 hl => hDone h0 fun x hx => (hL x hx).symm.trans (hl _)) fun x u kl y w' cnt' hkey hlk hv hat hrg hlt hgr hsz hen => ?_
  obtain ⟨x', ex, rfl, hwx⟩ := Maps.keyOf_int_inv hk hkey
  cases ex
  obtain ⟨u', eu, rfl⟩ := rdE_inv hv
  obtain ⟨hh, hf⟩ := ht2 x hwx
  have hhas : Maps.has D (.int .i64 x) = true := Maps.has_true_of_atKey hat
  rw [hhas] at hh
  obtain ⟨u2, hu2⟩ := Option.isSome_iff_exists.1 hh.symm
  have e1 := (hf u2 hu2 .nil).symm.trans (hat .nil)
  simp only [DataW.held.injEq] at e1
  have e2 : u2 = u := hinj _ _ (e1.trans eu.symm)
  subst e2
  refine hMore x u2 w' cnt' hwx ((hL x hwx).symm.trans hlk) hu2 ⟨D, _, hrg, ht2, fun y hy => ?_⟩ hlt hgr hsz hen
  rw [hL y hy]
  by_cases hyx : y = x
  · subst hyx
    rw [WideAt.sameKey_self (isKey_I y)]; simp
  · rw [Maps.sameKey_ne (fun h => hyx (by cases h; rfl))]; simp [hyx]
end
end Go.Proofs.YtfancjmhdbaoeaaGreatDoor
