/- Walks and plain facts that the proof of the statement MemoAlike uses, joined: Law SetM SetA SetN SetB Tab Slc OpZ ArgZ TxZ ArgT ArgC RelM SetC SetD SetE SetF SetG RelA RelC RelB RelD RelE RelF RelP RelG RelH RelI RelN RelJ RelK RelL RelO SetH SetI RelQ. Conditions: each theorem's own. -/
import Derived.Test.YtecpeegbfeijaaaDoorRows
import Derived.Test.YtecpeegbfeijaaaDoorProg
import Derived.WalkKit
import Derived.ProofKit
import Derived.OpenShut
import Derived.Deep.DeepHandedRow
import Derived.Lib.LaidTab
import Derived.Laws.Bits64b
import Derived.WalkSpells
import Derived.WalkLawsBesides
import Derived.Lib.Hide
import Derived.Laws.Wrap64
import Derived.WalkSmall
import Derived.Laws.AppendOwnNone
import Derived.Deep.Slices
import Derived.Deep.Strs
import Derived.Lib.SmallJoins
import Derived.Deep.QuietTactic
import Derived.BigQuiet
import Derived.StillTailTactics
import Derived.Laws.Tables
import Derived.Laws.CopyOwn
import Derived.Deep.RegionHeld3
import Derived.Deep.RegionWith
namespace Go.Proofs.YtecpeegbfeijaaaDoor
set_option maxRecDepth 100000
open Go.ChangeShapes Go.WideShapes Go.ChangeAt Go.RowKit

theorem own : ownKnob Tryd.prog.godebug = none := by kernel_rfl
theorem laidOut : laidOutB Tryd.prog = true := by kernel_rfl

theorem trodAll_stays {H : Type} {enc : TypeId × Value → H} {W W' : World} (hb : Below W.heap.size W W') :
    ∀ (ts : List TypeId) (vs : List Value) (ds : List (DataW H)) (ps : List MemPlace), (∀ t ∈ ts, Tryd.prog.readableRec t = true ∧ t < Tryd.prog.types.size) →
      DataW.TrodAll enc Tryd.prog W 0 (fun _ => true) true ts vs ds ps → (∀ x ∈ ps, x.block < W.heap.size) →
      DataW.TrodAll enc Tryd.prog W' 0 (fun b => decide (b < W.heap.size)) true ts vs ds ps
  | [], vs, ds, ps, _, h, _ => by
    obtain ⟨rfl, rfl, rfl⟩ := trodAll_nil h
    exact trodAll_mk0
  | t :: ts, vs, ds, ps, hr, h, hlt => by
    obtain ⟨v, vs', d, ds', p, q, rfl, rfl, rfl, hd, hrest⟩ := trodAll_cons h
    have h1 := hr t List.mem_cons_self
    exact trodAll_cons_mk (Below.trod laidOut h1.1 h1.2 hd hb fun x hx => hlt x (List.mem_append_left _ hx))
      (trodAll_stays hb ts vs' ds' q (fun u hu => hr u (List.mem_cons_of_mem _ hu)) hrest fun x hx => hlt x (List.mem_append_right _ hx))

/-- FROM THE CONTRACT TO WHAT THE ROW ASKS: a law that answers true, with nothing below the old heap changed. -/
theorem law_post {H : Type} {enc : TypeId × Value → H} {s : ChangeSpec} {f : Func} {W W' : World} {args : Array Value} {ds gs : List (DataW H)} {before : List MemPlace}
    (hW : DataW.Whole enc Tryd.prog f.params.toList s.vars false W args.toList ds gs before) (hv : s.vars = [])
    (hr : ∀ t ∈ f.params.toList, Tryd.prog.readableRec t = true ∧ t < Tryd.prog.types.size) (hb : Below W.heap.size W W')
    (hres : f.resultTypes = #[4]) (hfn : (s.fn H (ds ++ [])).results = [.lit (.bool true)]) (hfa : (s.fn H (ds ++ [])).args = ds) (hfv : (s.fn H (ds ++ [])).vars = []) :
    s.post enc Tryd.prog f false true false false W args (.bool true) W' := by
  have hW' := hW
  obtain ⟨p, q, hA, hV, hpq, hfz, hnd⟩ := hW
  rw [hv] at hV
  obtain ⟨rfl, rfl⟩ := trodVars_none hV
  have hlt : ∀ x ∈ p, x.block < W.heap.size := fun x hx => by
    have := hW'.lt x (by rw [hpq]; exact List.mem_append_left _ hx)
    simpa using this
  refine ⟨ds, [], before, [], p, [], hW', ?_, ?_, ?_, hb.frame _, fun h => by cases h⟩
  · rw [hfn, hres]
    exact trodAll_cons_mk (shut_bool Tryd.underlying4 _) trodAll_mk0
  · rw [hfa]
    exact trodAll_stays hb _ _ _ _ hr hA hlt
  · rw [hfv, hv]; exact rfl
end Go.Proofs.YtecpeegbfeijaaaDoor

namespace Go.Proofs.YtecpeegbfeijaaaDoor
set_option maxRecDepth 100000

/-- The bit of one number, 0 where it is no number from 0 to 63. -/
def bt (n : Int) : Nat := if 0 ≤ n ∧ n < 64 then 2 ^ n.toNat else 0
/-- Is a number in a set? -/
def hasB (s : Nat) (n : Int) : Bool := decide (0 ≤ n ∧ n < 64) && s.testBit n.toNat
/-- A set's word: below 2^64. -/
def IsSet (s : Nat) : Prop := s < 18446744073709551616
def withS (s : Nat) (n : Int) : Nat := s ||| bt n
def woS (s : Nat) (n : Int) : Nat := s ^^^ (s &&& bt n)

theorem isSet_iff (s : Nat) : IsSet s ↔ s < 2 ^ 64 := by unfold IsSet; omega
theorem isSet_of_bits {s : Nat} (h : ∀ i, 64 ≤ i → s.testBit i = false) : IsSet s := by
  rw [isSet_iff]; exact Nat.lt_pow_two_of_testBit s h
theorem IsSet.high {s : Nat} (h : IsSet s) {i : Nat} (hi : 64 ≤ i) : s.testBit i = false := by
  rw [isSet_iff] at h
  exact Nat.testBit_lt_two_pow (Nat.lt_of_lt_of_le h (Nat.pow_le_pow_right (by omega) hi))
theorem set_ext {s t : Nat} (hs : IsSet s) (ht : IsSet t) (h : ∀ i, i < 64 → s.testBit i = t.testBit i) : s = t := by
  apply Nat.eq_of_testBit_eq
  intro i
  by_cases hi : i < 64
  · exact h i hi
  · rw [hs.high (by omega), ht.high (by omega)]
theorem testBit_bt (n : Int) (i : Nat) : (bt n).testBit i = (decide (0 ≤ n ∧ n < 64) && decide (n.toNat = i)) := by
  unfold bt
  split
  · rename_i h; rw [Nat.testBit_two_pow]; simp [h]
  · rename_i h; simp [h]
theorem isSet_bt (n : Int) : IsSet (bt n) := by
  apply isSet_of_bits
  intro i hi
  rw [testBit_bt]
  by_cases h : 0 ≤ n ∧ n < 64
  · simp [h]; omega
  · simp [h]
theorem isSet_and {s t : Nat} (hs : IsSet s) : IsSet (s &&& t) := by
  apply isSet_of_bits
  intro i hi
  simp [hs.high hi]
theorem isSet_or {s t : Nat} (hs : IsSet s) (ht : IsSet t) : IsSet (s ||| t) := by
  apply isSet_of_bits
  intro i hi
  simp [hs.high hi, ht.high hi]
theorem isSet_xor {s t : Nat} (hs : IsSet s) (ht : IsSet t) : IsSet (s ^^^ t) := by
  apply isSet_of_bits
  intro i hi
  simp [hs.high hi, ht.high hi]
theorem isSet_withS {s : Nat} {n : Int} (hs : IsSet s) : IsSet (withS s n) := isSet_or hs (isSet_bt n)
theorem isSet_woS {s : Nat} {n : Int} (hs : IsSet s) : IsSet (woS s n) := isSet_xor hs (isSet_and hs)
theorem testBit_withS (s : Nat) (n : Int) (i : Nat) : (withS s n).testBit i = (s.testBit i || (decide (0 ≤ n ∧ n < 64) && decide (n.toNat = i))) := by
  simp only [withS, Nat.testBit_or, testBit_bt]
theorem testBit_woS (s : Nat) (n : Int) (i : Nat) : (woS s n).testBit i = (s.testBit i && !(decide (0 ≤ n ∧ n < 64) && decide (n.toNat = i))) := by
  simp only [woS, Nat.testBit_xor, Nat.testBit_and, testBit_bt]
  cases s.testBit i <;> simp
theorem and_bt_ne (s : Nat) (n : Int) : (s &&& bt n != 0) = hasB s n := by
  unfold hasB
  by_cases h : 0 ≤ n ∧ n < 64
  · have e : s &&& bt n = if s.testBit n.toNat then 2 ^ n.toNat else 0 := by
      apply Nat.eq_of_testBit_eq
      intro i
      rw [Nat.testBit_and, testBit_bt]
      by_cases hb : s.testBit n.toNat = true
      · simp only [h, hb, if_true, Nat.testBit_two_pow]
        by_cases e : n.toNat = i
        · subst e; simp [hb]
        · simp [e]
      · simp only [h, hb]
        by_cases e : n.toNat = i
        · subst e; simp [hb]
        · simp [e]
    rw [e]
    cases hb : s.testBit n.toNat
    · simp
    · have : 0 < 2 ^ n.toNat := Nat.two_pow_pos _
      simp [h]
  · have : bt n = 0 := by unfold bt; simp [h]
    rw [this]; simp [h]
theorem bits_has (s : Nat) (n : Int) (hs : IsSet s) : (Go.bits .and .u64 (s : Int) ((bt n : Nat) : Int) != 0) = hasB s n := by
  rw [Go.bits_and_u64_nat s (bt n) hs (isSet_bt n), ← and_bt_ne]
  rw [Bool.eq_iff_iff]; simp
theorem bits_with (s : Nat) (n : Int) (hs : IsSet s) : Go.bits .or .u64 (s : Int) ((bt n : Nat) : Int) = ((withS s n : Nat) : Int) :=
  Go.bits_or_u64_nat s (bt n) hs (isSet_bt n)
theorem bits_andNot_u64_nat (a b : Nat) (ha : a < 18446744073709551616) (hb : b < 18446744073709551616) :
    Go.bits .andNot .u64 (a : Int) (b : Int) = ((a ^^^ (a &&& b) : Nat) : Int) := by
  have hx : a ^^^ (a &&& b) < 2 ^ 64 := Nat.xor_lt_two_pow (by omega) (Nat.and_lt_two_pow _ (by omega))
  have h1 : (BitVec.ofInt 64 (a : Int)).toNat = a := by
    rw [BitVec.ofInt_natCast, BitVec.toNat_ofNat]; exact Nat.mod_eq_of_lt (by omega)
  have h2 : (BitVec.ofInt 64 (b : Int)).toNat = b := by
    rw [BitVec.ofInt_natCast, BitVec.toNat_ofNat]; exact Nat.mod_eq_of_lt (by omega)
  show IntKind.u64.wrap ((BitVec.ofInt 64 (a : Int) &&& ~~~ (BitVec.ofInt 64 (b : Int))).toNat : Int) = _
  have e : ∀ x y : BitVec 64, x &&& ~~~ y = x ^^^ (x &&& y) := by
    intro x y; ext i hi; simp; cases x[i] <;> cases y[i] <;> rfl
  rw [e, BitVec.toNat_xor, BitVec.toNat_and, h1, h2, IntKind.wrap_u64]
  omega
theorem bits_wo (s : Nat) (n : Int) (hs : IsSet s) : Go.bits .andNot .u64 (s : Int) ((bt n : Nat) : Int) = ((woS s n : Nat) : Int) :=
  bits_andNot_u64_nat s (bt n) hs (isSet_bt n)
theorem wrap_two_pow (n : Int) (h0 : 0 ≤ n) (h1 : n < 64) : IntKind.u64.wrap (2 ^ n.toNat) = ((bt n : Nat) : Int) := by
  have h := isSet_bt n
  unfold bt IsSet at *
  rw [if_pos ⟨h0, h1⟩] at *
  rw [IntKind.wrap_u64]
  have : ((2 : Int) ^ n.toNat) = ((2 ^ n.toNat : Nat) : Int) := by simp
  rw [this]; generalize 2 ^ n.toNat = k at *; omega
theorem bt_out (n : Int) (h : ¬ (0 ≤ n ∧ n < 64)) : (0 : Int) = ((bt n : Nat) : Int) := by unfold bt; simp [h]
end Go.Proofs.YtecpeegbfeijaaaDoor

namespace Go.Proofs.YtecpeegbfeijaaaDoor
set_option maxRecDepth 100000
open Go.RowKit

theorem ret_i {k : IntKind} {a b : Int} (h : a = b) : Ending.returned (.int k a) = .returned (.int k b) := by rw [h]
theorem ret_b {a b : Bool} (h : a = b) : Ending.returned (.bool a) = .returned (.bool b) := by rw [h]

set_option maxHeartbeats 400000 in
theorem bit_in (n : Int) (w : World) (h0 : 0 ≤ n) (h1 : n < 64) :
    Calls Tryd.prog 50 #[.int .i64 n] w fun e w' => e = .returned (.int .u64 ((bt n : Nat) : Int)) ∧ w = w' := by
  go_enter Tryd.func50, Tryd.ntmps50
  go_wp2
  go_ret
  exact ⟨ret_i (wrap_two_pow n h0 h1), rfl⟩
set_option maxHeartbeats 400000 in
theorem bit_out (n : Int) (w : World) (h : ¬ (0 ≤ n ∧ n < 64)) :
    Calls Tryd.prog 50 #[.int .i64 n] w fun e w' => e = .returned (.int .u64 ((bt n : Nat) : Int)) ∧ w = w' := by
  have e := bt_out n h
  have H := Lib.hid e; clear e
  by_cases h0 : n < 0
  all_goals
    go_enter Tryd.func50, Tryd.ntmps50
    go_wp2
    go_ret
    exact ⟨ret_i H.out, rfl⟩
theorem bit_any (n : Int) (w : World) :
    Calls Tryd.prog 50 #[.int .i64 n] w fun e w' => e = .returned (.int .u64 ((bt n : Nat) : Int)) ∧ w = w' := by
  by_cases h : 0 ≤ n ∧ n < 64
  · exact bit_in n w h.1 h.2
  · exact bit_out n w h

set_option maxHeartbeats 400000 in
theorem has_any (s : Nat) (n : Int) (w : World) (hs : IsSet s) :
    Calls Tryd.prog 23 #[.int .u64 (s : Int), .int .i64 n] w fun e w' => e = .returned (.bool (hasB s n)) ∧ w = w' := by
  go_enter Tryd.func23, Tryd.ntmps23
  go_wp2_with (go_at_call 50; refine (bit_any _ _).mono ?_; rintro e w' ⟨rfl, rfl⟩)
  go_ret
  exact ⟨ret_b (bits_has s n hs), rfl⟩
set_option maxHeartbeats 400000 in
theorem with_any (s : Nat) (n : Int) (w : World) (hs : IsSet s) :
    Calls Tryd.prog 30 #[.int .u64 (s : Int), .int .i64 n] w fun e w' => e = .returned (.int .u64 ((withS s n : Nat) : Int)) ∧ w = w' := by
  go_enter Tryd.func30, Tryd.ntmps30
  go_wp2_with (go_at_call 50; refine (bit_any _ _).mono ?_; rintro e w' ⟨rfl, rfl⟩)
  go_ret
  exact ⟨ret_i (bits_with s n hs), rfl⟩
set_option maxHeartbeats 400000 in
theorem wo_any (s : Nat) (n : Int) (w : World) (hs : IsSet s) :
    Calls Tryd.prog 47 #[.int .u64 (s : Int), .int .i64 n] w fun e w' => e = .returned (.int .u64 ((woS s n : Nat) : Int)) ∧ w = w' := by
  go_enter Tryd.func47, Tryd.ntmps47
  go_wp2_with (go_at_call 50; refine (bit_any _ _).mono ?_; rintro e w' ⟨rfl, rfl⟩)
  go_ret
  exact ⟨ret_i (bits_wo s n hs), rfl⟩
end Go.Proofs.YtecpeegbfeijaaaDoor

namespace Go.Proofs.YtecpeegbfeijaaaDoor
set_option maxRecDepth 100000

/-- The numbers of a set below k, rising. -/
def lstTo (s k : Nat) : List Nat := (List.range k).filter fun i => s.testBit i
def lst (s : Nat) : List Nat := lstTo s 64
/-- The least number of a set, 64 where it is empty. -/
def fst (s : Nat) : Nat := (lst s).headD 64

theorem lstTo_len (s k : Nat) : (lstTo s k).length ≤ k := by
  unfold lstTo
  have := List.length_filter_le (fun i => s.testBit i) (List.range k)
  simpa using this
theorem mem_lst {s i : Nat} : i ∈ lst s ↔ i < 64 ∧ s.testBit i = true := by simp [lst, lstTo]
theorem mem_lst' {s i : Nat} (hs : IsSet s) : i ∈ lst s ↔ s.testBit i = true := by
  rw [mem_lst]
  constructor
  · exact fun h => h.2
  · intro h
    refine ⟨?_, h⟩
    by_cases h2 : i < 64
    · exact h2
    · rw [hs.high (by omega)] at h; cases h
theorem lst_nodup (s : Nat) : (lst s).Nodup := List.Pairwise.filter _ List.nodup_range
theorem lst_sorted (s : Nat) : (lst s).Pairwise (· < ·) := List.Pairwise.filter _ List.pairwise_lt_range
theorem lst_zero : lst 0 = [] := by decide
theorem lst_nil {s : Nat} (hs : IsSet s) (h : lst s = []) : s = 0 := by
  apply set_ext hs (by unfold IsSet; omega)
  intro i hi
  cases hb : s.testBit i
  · simp
  · have : i ∈ lst s := mem_lst.2 ⟨hi, hb⟩
    rw [h] at this; cases this
theorem lst_woS (s : Nat) (n : Nat) (hn : n < 64) : lst (woS s (n : Int)) = (lst s).filter (fun i => i != n) := by
  unfold lst lstTo
  rw [List.filter_filter]
  apply List.filter_congr
  intro i _
  rw [testBit_woS]
  have : (0 ≤ (n : Int) ∧ (n : Int) < 64) := by omega
  simp only [this, and_self, decide_true, Bool.true_and, Int.toNat_natCast, bne]
  rw [Bool.and_comm]
  congr 2
  rw [Bool.eq_iff_iff]; simp; exact ⟨fun h => h.symm, fun h => h.symm⟩
theorem lst_cons {s : Nat} (h : lst s ≠ []) : lst s = fst s :: lst (woS s (fst s : Int)) := by
  unfold fst
  match e : lst s with
  | [] => exact absurd e h
  | a :: t =>
    have ha : a < 64 := (mem_lst.1 (e ▸ List.mem_cons_self : a ∈ lst s)).1
    simp only [List.headD_cons]
    rw [lst_woS s a ha, e]
    have hn := e ▸ lst_nodup s
    rw [List.nodup_cons] at hn
    rw [List.filter_cons]
    simp
    symm
    rw [List.filter_eq_self]
    intro b hb
    simp
    rintro rfl
    exact hn.1 hb
theorem fst_mem {s : Nat} (h : lst s ≠ []) : fst s ∈ lst s := by
  rw [lst_cons h]; exact List.mem_cons_self
theorem fst_lt {s : Nat} (h : lst s ≠ []) : fst s < 64 := (mem_lst.1 (fst_mem h)).1
theorem fst_le (s : Nat) : fst s ≤ 64 := by
  by_cases h : lst s = []
  · simp [fst, h]
  · exact Nat.le_of_lt (fst_lt h)
theorem fst_least {s i : Nat} (h : i < fst s) : s.testBit i = false := by
  cases hb : s.testBit i
  · rfl
  · have hi : i < 64 := Nat.lt_of_lt_of_le h (fst_le s)
    have hm : i ∈ lst s := mem_lst.2 ⟨hi, hb⟩
    have hne : lst s ≠ [] := by intro e; rw [e] at hm; cases hm
    have hs := lst_sorted s
    rw [lst_cons hne] at hm hs
    rcases List.mem_cons.1 hm with e | e
    · omega
    · have := (List.pairwise_cons.1 hs).1 i e
      omega
theorem lst_ne {s : Nat} (hs : IsSet s) (h : 0 < s) : lst s ≠ [] := by
  intro e; have := lst_nil hs e; omega

/-! ### The lowest bit, as the library finds it -/
theorem low_div {s k : Nat} (hlow : ∀ i, i < k → s.testBit i = false) : s % 2 ^ k = 0 := by
  apply Nat.eq_of_testBit_eq
  intro i
  rw [Nat.testBit_mod_two_pow]
  by_cases h : i < k
  · simp [hlow i h]
  · simp [h]
theorem and_neg {s k : Nat} (hs : s < 2 ^ 64) (hk : s.testBit k = true) (hlow : ∀ i, i < k → s.testBit i = false) (hk64 : k < 64) : s &&& (2 ^ 64 - s) = 2 ^ k := by
  have h0 : 0 < s := by
    rcases Nat.eq_zero_or_pos s with h | h
    · subst h; simp at hk
    · exact h
  have hd := low_div hlow
  obtain ⟨c, hc⟩ : ∃ c, s = 2 ^ k * c := ⟨s / 2 ^ k, (Nat.mul_div_cancel' (Nat.dvd_of_mod_eq_zero hd)).symm⟩
  have hp : 0 < 2 ^ k := Nat.two_pow_pos k
  have codd : c % 2 = 1 := by
    have : s.testBit k = c.testBit 0 := by rw [hc, Nat.testBit_two_pow_mul]; simp
    rw [this] at hk
    simpa [Nat.testBit_zero] using hk
  obtain ⟨d, rfl⟩ : ∃ d, c = 2 * d + 1 := ⟨c / 2, by omega⟩
  have e1 : s - 1 = 2 ^ k * (2 * d) + (2 ^ k - 1) := by
    rw [hc, Nat.mul_add, Nat.mul_one]
    omega
  have e2 : 2 ^ 64 - s = 2 ^ 64 - ((s - 1) + 1) := by omega
  rw [e2]
  apply Nat.eq_of_testBit_eq
  intro i
  rw [Nat.testBit_and, Nat.testBit_two_pow_sub_succ (by omega), Nat.testBit_two_pow]
  rw [e1, Nat.testBit_two_pow_mul_add _ (by omega)]
  by_cases hik : i < k
  · simp [hlow i hik]; omega
  · rw [if_neg hik]
    have : s.testBit i = (2 * d + 1).testBit (i - k) := by rw [hc, Nat.testBit_two_pow_mul]; simp; omega
    rw [this]
    by_cases e : i = k
    · subst e
      simp [Nat.testBit_zero, hk64]
    · obtain ⟨j, hj⟩ : ∃ j, i - k = j + 1 := ⟨i - k - 1, by omega⟩
      rw [hj, Nat.testBit_succ, Nat.testBit_succ]
      have q1 : (2 * d + 1) / 2 = d := by omega
      have q2 : 2 * d / 2 = d := by omega
      rw [q1, q2]
      have : ¬ k = i := fun h => e h.symm
      simp [this]
      exact fun h _ => h
/-- The library's table. -/
def deB : List Int := [0, 1, 56, 2, 57, 49, 28, 3, 61, 58, 42, 50, 38, 29, 17, 4, 62, 47, 59, 36, 45, 43, 51, 22, 53, 39, 33, 30, 24, 18, 12, 5, 63, 55, 48, 27, 60, 41, 37, 16, 46, 35, 44, 21, 52, 32, 23, 11, 54, 26, 40, 15, 34, 20, 31, 10, 25, 14, 19, 9, 13, 8, 7, 6]
def deIdx (k : Nat) : Nat := 2 ^ k * 285870213051353865 % 18446744073709551616 / 288230376151711744
theorem deB_at : ∀ k : Fin 64, deIdx k.val < 64 ∧ deB.getD (deIdx k.val) 0 = (k.val : Int) := by decide +kernel
theorem bits_neg (s : Nat) (hs : IsSet s) (h0 : 0 < s) : Go.bits .and .u64 (s : Int) (IntKind.u64.wrap (-(s : Int))) = ((2 ^ fst s : Nat) : Int) := by
  have hne := lst_ne hs h0
  have hm := fst_mem hne
  have hb := (mem_lst.1 hm).2
  have e : IntKind.u64.wrap (-(s : Int)) = ((18446744073709551616 - s : Nat) : Int) := by
    unfold IsSet at hs
    rw [IntKind.wrap_u64]; omega
  rw [e, Go.bits_and_u64_nat s _ hs (by omega)]
  have := and_neg (s := s) (k := fst s) (by unfold IsSet at hs; omega) hb (fun i hi => fst_least hi) (fst_lt hne)
  rw [show (18446744073709551616 : Nat) = 2 ^ 64 from by decide, this]
theorem de_idx (k : Nat) : IntKind.u64.wrap (((2 ^ k : Nat) : Int) * 285870213051353865) / 288230376151711744 = ((deIdx k : Nat) : Int) := by
  rw [IntKind.wrap_u64]; unfold deIdx
  generalize 2 ^ k = p
  omega

/-! ### How many bits, as the library counts them -/
def f1 (b : Nat) : Nat := (b / 2 &&& 0x55) + (b &&& 0x55)
def f2 (b : Nat) : Nat := (b / 4 &&& 0x33) + (b &&& 0x33)
def f3 (b : Nat) : Nat := (b / 16 + b) &&& 0x0f
def ofB : List Nat → Nat
  | [] => 0
  | b :: l => 256 * ofB l + b
def mk (c : Nat) : Nat → Nat
  | 0 => 0
  | k + 1 => 256 * mk c k + c
theorem and_split (a b m c : Nat) (hb : b < 256) (hc : c < 256) : (256 * a + b) &&& (256 * m + c) = 256 * (a &&& m) + (b &&& c) := by
  have hbc : b &&& c < 256 := Nat.and_lt_two_pow (n := 8) _ hc
  apply Nat.eq_of_testBit_eq
  intro i
  rw [Nat.testBit_and, show (256 : Nat) = 2 ^ 8 from rfl, Nat.testBit_two_pow_mul_add _ hb, Nat.testBit_two_pow_mul_add _ hc, Nat.testBit_two_pow_mul_add _ hbc]
  split <;> simp
theorem f1_low : ∀ b : Fin 256, ∀ r : Fin 2, (128 * r.val + b.val / 2) &&& 0x55 = (b.val / 2 &&& 0x55) := by decide +kernel
theorem f2_low : ∀ b : Fin 256, ∀ r : Fin 4, (64 * r.val + b.val / 4) &&& 0x33 = (b.val / 4 &&& 0x33) := by decide +kernel
theorem f3_low : ∀ b : Fin 256, ∀ r : Fin 5, b.val % 16 ≤ 4 → b.val / 16 ≤ 4 → (16 * r.val + b.val / 16 + b.val) &&& 0x0f = f3 b.val := by decide +kernel
theorem f1_lt : ∀ b : Fin 256, f1 b.val < 256 := by decide +kernel
theorem f2_lt : ∀ b : Fin 256, f2 b.val < 256 := by decide +kernel
theorem f21_ok : ∀ b : Fin 256, f2 (f1 b.val) % 16 ≤ 4 ∧ f2 (f1 b.val) / 16 ≤ 4 ∧ f2 (f1 b.val) < 256 := by decide +kernel
theorem pop_ok : ∀ b : Fin 256, f3 (f2 (f1 b.val)) = (lstTo b.val 8).length := by decide +kernel
theorem st1_ofB : ∀ l : List Nat, (∀ b ∈ l, b < 256) → (ofB l / 2 &&& mk 0x55 l.length) + (ofB l &&& mk 0x55 l.length) = ofB (l.map f1)
  | [], _ => rfl
  | b :: l, h => by
    have hb := h b List.mem_cons_self
    have ih := st1_ofB l fun x hx => h x (List.mem_cons_of_mem _ hx)
    simp only [ofB, mk, List.length_cons, List.map_cons]
    have e : (256 * ofB l + b) / 2 = 256 * (ofB l / 2) + (128 * (ofB l % 2) + b / 2) := by omega
    have hlow := f1_low ⟨b, hb⟩ ⟨ofB l % 2, by omega⟩
    simp only at hlow
    rw [e, and_split _ _ _ _ (by omega) (by omega), and_split _ _ _ _ hb (by omega), ← ih, hlow, f1]
    omega
theorem st2_ofB : ∀ l : List Nat, (∀ b ∈ l, b < 256) → (ofB l / 4 &&& mk 0x33 l.length) + (ofB l &&& mk 0x33 l.length) = ofB (l.map f2)
  | [], _ => rfl
  | b :: l, h => by
    have hb := h b List.mem_cons_self
    have ih := st2_ofB l fun x hx => h x (List.mem_cons_of_mem _ hx)
    simp only [ofB, mk, List.length_cons, List.map_cons]
    have e : (256 * ofB l + b) / 4 = 256 * (ofB l / 4) + (64 * (ofB l % 4) + b / 4) := by omega
    have hlow := f2_low ⟨b, hb⟩ ⟨ofB l % 4, by omega⟩
    simp only at hlow
    rw [e, and_split _ _ _ _ (by omega) (by omega), and_split _ _ _ _ hb (by omega), ← ih, hlow, f2]
    omega
theorem st3_ofB : ∀ l : List Nat, (∀ b ∈ l, b % 16 ≤ 4 ∧ b / 16 ≤ 4 ∧ b < 256) → (ofB l / 16 + ofB l) &&& mk 0x0f l.length = ofB (l.map f3)
  | [], _ => rfl
  | b :: l, h => by
    obtain ⟨h1, h2, hb⟩ := h b List.mem_cons_self
    have ih := st3_ofB l fun x hx => h x (List.mem_cons_of_mem _ hx)
    have hr : ofB l % 16 ≤ 4 := by
      cases l with
      | nil => simp [ofB]
      | cons c l =>
        have := (h c (List.mem_cons_of_mem _ List.mem_cons_self)).1
        simp only [ofB]; omega
    simp only [ofB, mk, List.length_cons, List.map_cons]
    have e : (256 * ofB l + b) / 16 + (256 * ofB l + b) = 256 * (ofB l / 16 + ofB l) + (16 * (ofB l % 16) + b / 16 + b) := by omega
    have hlow := f3_low ⟨b, hb⟩ ⟨ofB l % 16, by omega⟩ h1 h2
    simp only at hlow
    rw [e, and_split _ _ _ _ (by omega) (by omega), ← ih, hlow]
theorem lstTo_add (s j k : Nat) : (lstTo s (j + k)).length = (lstTo s j).length + (lstTo (s / 2 ^ j) k).length := by
  unfold lstTo
  rw [List.range_add, List.filter_append, List.length_append, List.filter_map, List.length_map]
  congr 2
  apply List.filter_congr
  intro i _
  simp [Function.comp, Nat.testBit_div_two_pow, Nat.add_comm]
theorem lstTo_low (a b k : Nat) (hb : b < 2 ^ k) : lstTo (2 ^ k * a + b) k = lstTo b k := by
  unfold lstTo
  apply List.filter_congr
  intro i hi
  have : i < k := by simpa using hi
  rw [Nat.testBit_two_pow_mul_add _ hb, if_pos this]
def sumB : List Nat → Nat
  | [] => 0
  | b :: l => b + sumB l
theorem cnt_ofB : ∀ l : List Nat, (∀ b ∈ l, b < 256) → (lstTo (ofB l) (8 * l.length)).length = sumB (l.map fun b => f3 (f2 (f1 b)))
  | [], _ => rfl
  | b :: l, h => by
    have hb := h b List.mem_cons_self
    have ih := cnt_ofB l fun x hx => h x (List.mem_cons_of_mem _ hx)
    have hp := pop_ok ⟨b, hb⟩
    simp only at hp
    simp only [ofB, List.length_cons, List.map_cons, sumB]
    rw [show 8 * (l.length + 1) = 8 + 8 * l.length by omega, lstTo_add, show (256 : Nat) = 2 ^ 8 from rfl, lstTo_low _ _ _ hb, hp]
    have : (2 ^ 8 * ofB l + b) / 2 ^ 8 = ofB l := by omega
    rw [this, ih]
theorem bytes_of (s : Nat) (hs : IsSet s) : ∃ l : List Nat, l.length = 8 ∧ (∀ b ∈ l, b < 256) ∧ s = ofB l := by
  unfold IsSet at hs
  refine ⟨[s % 256, s / 256 % 256, s / 65536 % 256, s / 16777216 % 256, s / 4294967296 % 256, s / 1099511627776 % 256, s / 281474976710656 % 256, s / 72057594037927936], rfl, ?_, ?_⟩
  · intro b hb
    simp only [List.mem_cons, List.not_mem_nil, or_false] at hb
    rcases hb with h | h | h | h | h | h | h | h <;> omega
  · simp only [ofB]; omega
theorem ofB_lt : ∀ l : List Nat, (∀ b ∈ l, b < 256) → ofB l < 256 ^ l.length
  | [], _ => by simp [ofB]
  | b :: l, h => by
    have hb := h b List.mem_cons_self
    have ih := ofB_lt l fun x hx => h x (List.mem_cons_of_mem _ hx)
    simp only [ofB, List.length_cons, Nat.pow_succ]
    omega
/-! ### The library's steps, as the walk writes them -/
def sA (x : Int) : Int := IntKind.u64.wrap (Go.bits .and .u64 (x / 2) 6148914691236517205 + Go.bits .and .u64 x 6148914691236517205)
def sB (x : Int) : Int := IntKind.u64.wrap (Go.bits .and .u64 (x / 4) 3689348814741910323 + Go.bits .and .u64 x 3689348814741910323)
def sC (x : Int) : Int := Go.bits .and .u64 (IntKind.u64.wrap (x / 16 + x)) 1085102592571150095
def sD (x : Int) : Int := IntKind.u64.wrap (x + x / 256)
def sE (x : Int) : Int := IntKind.u64.wrap (x + x / 65536)
def sF (x : Int) : Int := IntKind.u64.wrap (x + x / 4294967296)
theorem sA_nat (x : Nat) (l : List Nat) (hl : l.length = 8) (hb : ∀ b ∈ l, b < 256) (hx : x = ofB l) : sA (x : Int) = ((ofB (l.map f1) : Nat) : Int) := by
  have h := st1_ofB l hb
  have hlt := ofB_lt l hb
  have hlt2 := ofB_lt (l.map f1) (by
    intro b hbm
    obtain ⟨c, hc, rfl⟩ := List.mem_map.1 hbm
    exact f1_lt ⟨c, hb c hc⟩)
  simp only [List.length_map] at hlt2
  rw [hl] at h hlt hlt2
  rw [← hx] at h hlt
  have e : mk 0x55 8 = 6148914691236517205 := by decide
  rw [e] at h
  unfold sA
  rw [show ((x : Int) / 2) = ((x / 2 : Nat) : Int) from by omega, show (6148914691236517205 : Int) = ((6148914691236517205 : Nat) : Int) from rfl]
  rw [Go.bits_and_u64_nat (x / 2) _ (by omega) (by omega), Go.bits_and_u64_nat x _ (by omega) (by omega), IntKind.wrap_u64, ← h]
  omega
theorem sB_nat (x : Nat) (l : List Nat) (hl : l.length = 8) (hb : ∀ b ∈ l, b < 256) (hx : x = ofB l) : sB (x : Int) = ((ofB (l.map f2) : Nat) : Int) := by
  have h := st2_ofB l hb
  have hlt := ofB_lt l hb
  have hlt2 := ofB_lt (l.map f2) (by
    intro b hbm
    obtain ⟨c, hc, rfl⟩ := List.mem_map.1 hbm
    exact f2_lt ⟨c, hb c hc⟩)
  simp only [List.length_map] at hlt2
  rw [hl] at h hlt hlt2
  rw [← hx] at h hlt
  have e : mk 0x33 8 = 3689348814741910323 := by decide
  rw [e] at h
  unfold sB
  rw [show ((x : Int) / 4) = ((x / 4 : Nat) : Int) from by omega, show (3689348814741910323 : Int) = ((3689348814741910323 : Nat) : Int) from rfl]
  rw [Go.bits_and_u64_nat (x / 4) _ (by omega) (by omega), Go.bits_and_u64_nat x _ (by omega) (by omega), IntKind.wrap_u64, ← h]
  omega
theorem sC_nat (x : Nat) (l : List Nat) (hl : l.length = 8) (hb : ∀ b ∈ l, b % 16 ≤ 4 ∧ b / 16 ≤ 4 ∧ b < 256) (hx : x = ofB l) : sC (x : Int) = ((ofB (l.map f3) : Nat) : Int) := by
  have h := st3_ofB l hb
  have hlt : ofB l < 4991460930710486580 := by
    match l, hl with
    | [a, b, c, d, e, f, g, i], _ =>
      have := hb i (by simp)
      have := hb a (by simp)
      have := hb b (by simp)
      have := hb c (by simp)
      have := hb d (by simp)
      have := hb e (by simp)
      have := hb f (by simp)
      have := hb g (by simp)
      simp only [ofB]
      omega
  rw [hl] at h
  rw [← hx] at h hlt
  have e : mk 0x0f 8 = 1085102592571150095 := by decide
  rw [e] at h
  unfold sC
  have e2 : IntKind.u64.wrap ((x : Int) / 16 + (x : Int)) = ((x / 16 + x : Nat) : Int) := by rw [IntKind.wrap_u64]; omega
  rw [e2, show (1085102592571150095 : Int) = ((1085102592571150095 : Nat) : Int) from rfl]
  rw [Go.bits_and_u64_nat _ _ (by omega) (by omega), h]
theorem f3_le : ∀ b : Fin 256, f3 (f2 (f1 b.val)) ≤ 8 := by decide +kernel
theorem sD_step (x q p y : Nat) (hx : x = 256 * q + p) (hp : p < 256) (hb : x + q < 18446744073709551616) (hy : y = x + q) : sD (x : Int) = (y : Int) := by
  unfold sD; rw [IntKind.wrap_u64, show (x : Int) / 256 = (q : Int) from by omega, Int.emod_eq_of_lt (by omega) (by omega)]; omega
theorem sE_step (x q p y : Nat) (hx : x = 65536 * q + p) (hp : p < 65536) (hb : x + q < 18446744073709551616) (hy : y = x + q) : sE (x : Int) = (y : Int) := by
  unfold sE; rw [IntKind.wrap_u64, show (x : Int) / 65536 = (q : Int) from by omega, Int.emod_eq_of_lt (by omega) (by omega)]; omega
theorem sF_step (x q p y : Nat) (hx : x = 4294967296 * q + p) (hp : p < 4294967296) (hb : x + q < 18446744073709551616) (hy : y = x + q) : sF (x : Int) = (y : Int) := by
  unfold sF; rw [IntKind.wrap_u64, show (x : Int) / 4294967296 = (q : Int) from by omega, Int.emod_eq_of_lt (by omega) (by omega)]; omega
set_option maxHeartbeats 400000 in
theorem tail_nat (p0 p1 p2 p3 p4 p5 p6 p7 : Nat) (h0 : p0 ≤ 8) (h1 : p1 ≤ 8) (h2 : p2 ≤ 8) (h3 : p3 ≤ 8) (h4 : p4 ≤ 8) (h5 : p5 ≤ 8) (h6 : p6 ≤ 8) (h7 : p7 ≤ 8) (x n : Nat)
    (hx : x = p0 + 256 * p1 + 65536 * p2 + 16777216 * p3 + 4294967296 * p4 + 1099511627776 * p5 + 281474976710656 * p6 + 72057594037927936 * p7) (hn : n = p0 + p1 + p2 + p3 + p4 + p5 + p6 + p7) :
    ∃ z : Nat, sF (sE (sD (x : Int))) = ((256 * z + n : Nat) : Int) ∧ 256 * z + n < 9223372036854775808 := by
  obtain ⟨y, hy⟩ : ∃ y : Nat, y = (p0 + p1) + 256 * (p1 + p2) + 65536 * (p2 + p3) + 16777216 * (p3 + p4) + 4294967296 * (p4 + p5) + 1099511627776 * (p5 + p6) + 281474976710656 * (p6 + p7) + 72057594037927936 * p7 := ⟨_, rfl⟩
  obtain ⟨v, hv⟩ : ∃ v : Nat, v = (p0 + p1 + p2 + p3) + 256 * (p1 + p2 + p3 + p4) + 65536 * (p2 + p3 + p4 + p5) + 16777216 * (p3 + p4 + p5 + p6) + 4294967296 * (p4 + p5 + p6 + p7) + 1099511627776 * (p5 + p6 + p7) + 281474976710656 * (p6 + p7) + 72057594037927936 * p7 := ⟨_, rfl⟩
  have e1 : sD (x : Int) = (y : Int) := by
    apply sD_step _ (p1 + 256 * p2 + 65536 * p3 + 16777216 * p4 + 4294967296 * p5 + 1099511627776 * p6 + 281474976710656 * p7) p0 <;> (clear hv hn; subst hx hy; omega)
  have e2 : sE (y : Int) = (v : Int) := by
    apply sE_step _ ((p2 + p3) + 256 * (p3 + p4) + 65536 * (p4 + p5) + 16777216 * (p5 + p6) + 4294967296 * (p6 + p7) + 1099511627776 * p7) ((p0 + p1) + 256 * (p1 + p2)) <;> (clear hx hn e1; subst hv hy; omega)
  rw [e1, e2]
  clear e1 e2 hx hy
  refine ⟨(p1 + p2 + p3 + p4) + 256 * (p2 + p3 + p4 + p5) + 65536 * (p3 + p4 + p5 + p6) + 16777216 * (p4 + p5 + p6 + p7) + 4294967296 * (p5 + p6 + p7) + 1099511627776 * (p6 + p7) + 281474976710656 * p7 + (p5 + p6 + p7) + 256 * (p6 + p7) + 65536 * p7, ?_, by clear hv; subst hn; omega⟩
  apply sF_step _ ((p4 + p5 + p6 + p7) + 256 * (p5 + p6 + p7) + 65536 * (p6 + p7) + 16777216 * p7) ((p0 + p1 + p2 + p3) + 256 * (p1 + p2 + p3 + p4) + 65536 * (p2 + p3 + p4 + p5) + 16777216 * (p3 + p4 + p5 + p6)) <;> (subst hv hn; omega)
theorem and127 (z : Nat) (n : Nat) (hn : n ≤ 64) (h : 256 * z + n < 9223372036854775808) : Go.bits .and .i64 ((256 * z + n : Nat) : Int) 127 = (n : Int) := by
  show IntKind.i64.wrap ((BitVec.ofInt 64 ((256 * z + n : Nat) : Int) &&& BitVec.ofInt 64 127).toNat : Int) = _
  have h1 : (BitVec.ofInt 64 ((256 * z + n : Nat) : Int)).toNat = 256 * z + n := by
    rw [BitVec.ofInt_natCast, BitVec.toNat_ofNat]; exact Nat.mod_eq_of_lt (by omega)
  have h2 : (BitVec.ofInt 64 (127 : Int)).toNat = 127 := by decide
  have e : (256 * z + n) &&& 127 = n := by
    have := Nat.and_two_pow_sub_one_eq_mod (256 * z + n) 7
    rw [show (2 : Nat) ^ 7 - 1 = 127 from rfl] at this
    rw [this]; omega
  rw [BitVec.toNat_and, h1, h2, e]
  simp [IntKind.wrap, IntKind.bits, IntKind.signed]; omega
theorem ones_eq (s : Nat) (hs : IsSet s) : ∃ m : Nat, sF (sE (sD (sC (sB (sA (s : Int)))))) = (m : Int) ∧ m < 9223372036854775808 ∧ Go.bits .and .i64 (m : Int) 127 = (((lst s).length : Nat) : Int) := by
  obtain ⟨l, hl, hb, rfl⟩ := bytes_of s hs
  have hb1 : ∀ b ∈ l.map f1, b < 256 := by
    intro b hbm
    obtain ⟨c, hc, rfl⟩ := List.mem_map.1 hbm
    exact f1_lt ⟨c, hb c hc⟩
  have hb2 : ∀ b ∈ (l.map f1).map f2, b % 16 ≤ 4 ∧ b / 16 ≤ 4 ∧ b < 256 := by
    intro b hbm
    obtain ⟨c1, hc1, rfl⟩ := List.mem_map.1 hbm
    obtain ⟨c, hc, rfl⟩ := List.mem_map.1 hc1
    exact f21_ok ⟨c, hb c hc⟩
  rw [sA_nat _ l hl hb rfl, sB_nat _ _ (by simpa using hl) hb1 rfl, sC_nat _ _ (by simpa using hl) hb2 rfl]
  have hc := cnt_ofB l hb
  rw [hl] at hc
  have hlen : (lst (ofB l)).length = sumB (l.map fun b => f3 (f2 (f1 b))) := hc
  have hle : (lst (ofB l)).length ≤ 64 := lstTo_len _ _
  rw [hlen] at hle ⊢
  rw [List.map_map, List.map_map]
  match l, hl, hb with
  | [a, b, c, d, e, f, g, i], _, hb =>
    have q := fun x hx => f3_le ⟨x, hb x hx⟩
    simp only at q
    obtain ⟨z, hz1, hz2⟩ := tail_nat _ _ _ _ _ _ _ _ (q a (by simp)) (q b (by simp)) (q c (by simp)) (q d (by simp)) (q e (by simp)) (q f (by simp)) (q g (by simp)) (q i (by simp)) (ofB ([a, b, c, d, e, f, g, i].map (f3 ∘ f2 ∘ f1))) (sumB ([a, b, c, d, e, f, g, i].map fun b => f3 (f2 (f1 b)))) (by simp only [List.map_cons, List.map_nil, ofB, Function.comp]; omega) (by simp only [List.map_cons, List.map_nil, sumB]; omega)
    exact ⟨_, hz1, hz2, and127 _ _ hle hz2⟩
end Go.Proofs.YtecpeegbfeijaaaDoor

namespace Go.Proofs.YtecpeegbfeijaaaDoor
set_option maxRecDepth 100000
open Go.RowKit

theorem wrap64_nat (m : Nat) (h : m < 9223372036854775808) : wrap64 (m : Int) = (m : Int) := by unfold wrap64; omega

set_option maxHeartbeats 400000 in
theorem ones_any (s : Nat) (w : World) (hs : IsSet s) :
    Calls Tryd.prog 70 #[.int .u64 (s : Int)] w fun e w' => e = .returned (.int .i64 (((lst s).length : Nat) : Int)) ∧ w = w' := by
  have H : Hid (IsSet s) := Lib.hid hs
  clear hs
  go_enter Tryd.func70, Tryd.ntmps70
  go_wp2
  go_ret
  refine ⟨?_, rfl⟩
  obtain ⟨m, h1, h2, h3⟩ := ones_eq s H.out
  refine ret_i ?_
  have e : Go.bits .and .i64 (wrap64 (sF (sE (sD (sC (sB (sA (s : Int)))))))) 127 = (((lst s).length : Nat) : Int) := by rw [h1, wrap64_nat m h2, h3]
  exact e
set_option maxHeartbeats 400000 in
theorem scount_any (s : Nat) (w : World) (hs : IsSet s) :
    Calls Tryd.prog 51 #[.int .u64 (s : Int)] w fun e w' => e = .returned (.int .i64 (((lst s).length : Nat) : Int)) ∧ w = w' := by
  go_enter Tryd.func51, Tryd.ntmps51
  go_wp2_with (go_at_call 70; refine (ones_any _ _ hs).mono ?_; rintro e w' ⟨rfl, rfl⟩)
  go_ret
  exact ⟨rfl, rfl⟩

/-- The library's table lies in memory. -/
def Tab (w : World) : Prop := ∀ i, i < 64 → w.cell? ⟨0, i, none⟩ = some (.int .u8 (deB.getD i 0))
theorem Tab.pos {w : World} (h : Tab w) : 0 < w.heap.size := by
  have := h 0 (by omega)
  by_cases h0 : 0 < w.heap.size
  · exact h0
  · simp [World.cell?, Array.getElem?_eq_none (Nat.le_of_not_lt h0)] at this
theorem Tab.below {w w' : World} {B : Nat} (h : Tab w) (hb : Below B w w') (hB : 0 < B) : Tab w' :=
  fun i hi => (hb.cell (p := ⟨0, i, none⟩) hB).trans (h i hi)

set_option maxHeartbeats 400000 in
theorem ntz_zero (w : World) :
    Calls Tryd.prog 71 #[.int .u64 0] w fun e w' => e = .returned (.int .i64 64) ∧ w = w' := by
  go_enter Tryd.func71, Tryd.ntmps71
  go_wp2
  go_ret
  exact ⟨rfl, rfl⟩
set_option maxHeartbeats 400000 in
theorem ntz_walk (s p x k : Nat) (w : World) (h0 : 0 < s) (hn : Go.bits .and .u64 (s : Int) (IntKind.u64.wrap (-(s : Int))) = ((p : Nat) : Int))
    (hi : IntKind.u64.wrap ((p : Int) * 285870213051353865) / 288230376151711744 = ((x : Nat) : Int)) (hx : x < 64) (hc : w.cell? ⟨0, x, none⟩ = some (.int .u8 (k : Int))) (hk : k < 64) :
    Calls Tryd.prog 71 #[.int .u64 (s : Int)] w fun e w' => e = .returned (.int .i64 (k : Int)) ∧ w = w' := by
  go_enter Tryd.func71, Tryd.ntmps71
  go_wp2
  go_ret
  exact ⟨rfl, rfl⟩
theorem ntz_pos (s : Nat) (w : World) (hs : IsSet s) (h0 : 0 < s) (ht : Tab w) :
    Calls Tryd.prog 71 #[.int .u64 (s : Int)] w fun e w' => e = .returned (.int .i64 ((fst s : Nat) : Int)) ∧ w = w' := by
  have hlt := fst_lt (lst_ne hs h0)
  obtain ⟨hd1, hd2⟩ := deB_at ⟨fst s, hlt⟩
  simp only at hd1 hd2
  have hc := ht _ hd1
  rw [hd2] at hc
  exact ntz_walk s (2 ^ fst s) (deIdx (fst s)) (fst s) w h0 (bits_neg s hs h0) (de_idx (fst s)) hd1 hc hlt
theorem first_any (s : Nat) (w : World) (hs : IsSet s) (ht : Tab w) :
    Calls Tryd.prog 52 #[.int .u64 (s : Int)] w fun e w' => e = .returned (.int .i64 ((fst s : Nat) : Int)) ∧ w = w' := by
  have hz : Calls Tryd.prog 71 #[.int .u64 (s : Int)] w fun e w' => e = .returned (.int .i64 ((fst s : Nat) : Int)) ∧ w = w' := by
    rcases Nat.eq_zero_or_pos s with h | h
    · subst h; exact ntz_zero w
    · exact ntz_pos s w hs h ht
  have H := Lib.hid hz
  clear hz
  go_enter Tryd.func52, Tryd.ntmps52
  go_wp2_with (go_at_call 71; refine (H.out).mono ?_; rintro e w' ⟨rfl, rfl⟩)
  go_ret
  exact ⟨rfl, rfl⟩

/-- Are all numbers of a set in another one? -/
def inB (s t : Nat) : Bool := (s ^^^ (s &&& t)) == 0
theorem bits_in (s t : Nat) (hs : IsSet s) (ht : IsSet t) : (Go.bits .andNot .u64 (s : Int) (t : Int) == 0) = inB s t := by
  rw [bits_andNot_u64_nat s t hs ht, inB, Bool.eq_iff_iff]; simp
set_option maxHeartbeats 400000 in
theorem within_any (s t : Nat) (w : World) (hs : IsSet s) (ht : IsSet t) :
    Calls Tryd.prog 27 #[.int .u64 (s : Int), .int .u64 (t : Int)] w fun e w' => e = .returned (.bool (inB s t)) ∧ w = w' := by
  have H := Lib.hid (bits_in s t hs ht)
  clear hs ht
  go_enter Tryd.func27, Tryd.ntmps27
  go_wp2
  go_ret
  exact ⟨ret_b H.out, rfl⟩

end Go.Proofs.YtecpeegbfeijaaaDoor

namespace Go.Proofs.YtecpeegbfeijaaaDoor
set_option maxRecDepth 100000
open Go.ChangeShapes Go.WideShapes Go.ChangeAt Go.RowKit

theorem gTab : Tryd.prog.globalNamed "math/bits.deBruijn64tab" = some 0 := by kernel_rfl
theorem gTabType : (Tryd.prog.globals[0]?).map (·.type) = some 62 := by kernel_rfl
theorem cellsTab : Tryd.prog.cellsOf 62 = 64 := by kernel_rfl
theorem cellsU8 : Tryd.prog.cellsOf 5 = 1 := by kernel_rfl
theorem tab_of {W : World} (h : laidMetH Tryd.prog [("math/bits.deBruijn64tab", Rows.laid_math_bits_deBruijn64tab)] W) : Tab W := by
  have ht : Lib.TabIs Tryd.prog W "math/bits.deBruijn64tab" .u8 deB :=
    Lib.tabIs_of_head (rest := []) gTab gTabType Tryd.underlying62 Tryd.underlying5 cellsU8 cellsTab h
  intro i hi
  exact ht.cell gTab i hi
/-- A world in which the table holds what its initialiser lays. -/
noncomputable def laidWorld (os : Os) : World :=
  { World.holding Tryd.prog os ⟨#[], #[], []⟩ with heap := (World.holding Tryd.prog os ⟨#[], #[], []⟩).heap.modify 0 fun
      | .cells _ t frozen => .cells (deB.map (Value.int .u8)).toArray t frozen
      | o => o }
end Go.Proofs.YtecpeegbfeijaaaDoor

namespace Go.Proofs.YtecpeegbfeijaaaDoor
set_option maxRecDepth 100000
open Go.RowKit

/-- The slice v has n elements of 'size' cells each, which are cs. -/
def Row (w : World) (v : Value) (n size : Nat) (cs : List Value) : Prop :=
  cs.length = n * size ∧ ∃ ao cap, v = .slice ao n cap ∧ (n ≤ cap ∧ cap ≤ maxLen) ∧ (ao = none → n = 0 ∧ cap = 0) ∧ (0 < n → ∃ b off, ao = some ⟨b, off, none⟩ ∧ ∀ i, i < n * size → w.cell? ⟨b, off + i, none⟩ = cs[i]?)
/-- The slice v holds these ints. -/
def Ints (w : World) (v : Value) (xs : List Int) : Prop := Row w v xs.length 1 (xs.map (Value.int .i64))

theorem block_lt {w : World} {a : Addr} {v : Value} (h : w.cell? a = some v) : a.block < w.heap.size := by
  by_cases h0 : a.block < w.heap.size
  · exact h0
  · simp [World.cell?, Array.getElem?_eq_none (Nat.le_of_not_lt h0)] at h
theorem Row.below {w w' : World} {v : Value} {n size : Nat} {cs : List Value} (h : Row w v n size cs) (hb : Below w.heap.size w w') : Row w' v n size cs := by
  obtain ⟨hl, ao, cap, rfl, hm, hno, hc⟩ := h
  refine ⟨hl, ao, cap, rfl, hm, hno, fun hn => ?_⟩
  obtain ⟨b, off, rfl, hcell⟩ := hc hn
  refine ⟨b, off, rfl, fun i hi => ?_⟩
  have h1 := hcell i hi
  have h2 : cs[i]? = some cs[i] := List.getElem?_eq_getElem (by omega)
  rw [h2] at h1
  have hlt := block_lt h1
  rw [hb.cell (p := ⟨b, off + i, none⟩) hlt, h1, h2]
theorem Ints.below {w w' : World} {v : Value} {xs : List Int} (h : Ints w v xs) (hb : Below w.heap.size w w') : Ints w' v xs := Row.below h hb
theorem Row.drewN {w : World} {v : Value} {n size : Nat} {cs : List Value} (h : Row w v n size cs) (k : Nat) : Row (w.drewN k) v n size cs := h.below (below_drewN (Below.refl _ _) k)
theorem Row.of_owns {w : World} {base : Nat} {e : TypeId} {size : Nat} {v : Value} {n : Nat} {cs : List Value} (h : w.ownsRow base e size v n cs) : Row w v n size cs := by
  obtain ⟨hl, h⟩ := h
  refine ⟨hl, ?_⟩
  rcases h with ⟨rfl, rfl⟩ | ⟨g, cap, cur, rfl, hb, hh, hn, hm, hs, ht⟩
  · exact ⟨none, 0, rfl, by simp, fun _ => ⟨rfl, rfl⟩, fun h => by omega⟩
  · refine ⟨some ⟨g, 0, none⟩, cap, rfl, by omega, fun h => (by cases h), fun _ => ⟨g, 0, rfl, fun i hi => ?_⟩⟩
    have hown : w.ownsRow base e size (.slice (some ⟨g, 0, none⟩) n cap) n cs := ⟨hl, .inr ⟨g, cap, cur, rfl, hb, hh, hn, hm, hs, ht⟩⟩
    have := hown.cellAt i hi
    simpa using this
theorem Ints.of_owns {w : World} {base : Nat} {e : TypeId} {v : Value} {n : Nat} {xs : List Int} (h : w.ownsRow base e 1 v n (xs.map (Value.int .i64))) : Ints w v xs := by
  have hr := Row.of_owns h
  have hn : n = xs.length := by have := h.1; simp at this; omega
  subst hn; exact hr
theorem Ints.form {w : World} {v : Value} {xs : List Int} (h : Ints w v xs) : ∃ ao cap, v = .slice ao xs.length cap ∧ xs.length ≤ 9223372036854775807 := by
  obtain ⟨_, ao, cap, rfl, hm, _, _⟩ := h
  exact ⟨ao, cap, rfl, Nat.le_trans hm.1 hm.2⟩
theorem Ints.at {w : World} {ao : Option Addr} {n cap : Nat} {xs : List Int} (h : Ints w (.slice ao n cap) xs) {k : Nat} (hk : k < xs.length) :
    ∃ b off, ao = some ⟨b, off, none⟩ ∧ w.cell? ⟨b, off + k, none⟩ = some (.int .i64 xs[k]) := by
  obtain ⟨_, ao', cap', he, hm, _, hc⟩ := h
  obtain ⟨rfl, _, _⟩ : ao = ao' ∧ n = xs.length ∧ cap = cap' := by simpa using he
  obtain ⟨b, off, rfl, hcell⟩ := hc (by omega)
  refine ⟨b, off, rfl, ?_⟩
  rw [hcell k (by omega)]
  simp [List.getElem?_eq_getElem hk]
theorem owns_below {w w' : World} {base : Nat} {e : TypeId} {size : Nat} {v : Value} {n : Nat} {cs : List Value} (h : w.ownsRow base e size v n cs) (hb : Below w.heap.size w w') : w'.ownsRow base e size v n cs :=
  h.kept (row := none) ⟨hb.os, hb.tape, hb.output, hb.size, fun k hk _ => hb.block k hk⟩ (by cases v.ownBlock <;> simp)
/-- 'append(own, x...)', x any slice whose cells are known, nil included. -/
theorem wpList_append_row {P : Program} {w : World} {ops : Array Oper} {rest : List Oper} {o : Oper} {a : Act} {Q : Exit → Act → World → Prop} (hgd : o.guard = none) (s x : Operand) (t : TypeId)
    (ho : o.op = .call { callee := .builtin .append, args := #[s, x], argTypes := #[t, t] })
    (base : Nat) (e : TypeId) (i : TypeInfo) (z : Value) (size bytes : Nat) (ht : P.underlying t = some (.slice e)) (hi : P.info? e = some i) (hz : i.zero = some z)
    (hsize : i.size = size) (hby : i.bytes = bytes) (hzs : z.cells.size = size) (hsz : 0 < size)
    (v : Value) (n : Nat) (xs : List Value) (hs : a.eval s = v) (hown : w.ownsRow base e size v n xs)
    (sv : Value) (m : Nat) (news : List Value) (hx : a.eval x = sv) (hsrc : Row w sv m size news) (h1 : ∀ u ∈ news, u.oneCell' = true)
    (h63 : n + m ≤ maxLen) (hbytes : (n + m) * bytes ≤ 140737488355328) (hbase : base ≤ w.heap.size)
    (h : ∀ v' w', w'.ownsRow base e size v' (n + m) (xs ++ news) → w.grownBy w' v.ownBlock → wpList P ops Q rest (a.put o.dst v') w') : wpList P ops Q (o :: rest) a w := by
  obtain ⟨hl, ao, cap, rfl, _, hno, hc⟩ := hsrc
  cases ao with
  | none =>
    obtain ⟨rfl, rfl⟩ := hno rfl
    have hnews : news = [] := List.eq_nil_of_length_eq_zero (by simpa using hl)
    subst hnews
    exact wpList_append_own_none hgd s x t ho base e i size ht hi v n xs hs hown hx (by simpa using h v w (by simpa using hown) (World.grownBy.refl _ _))
  | some ad =>
    refine wpList_append_own w hgd s x t ho base e i z size bytes ht hi hz hsize hby hzs hsz v n xs hs hown ad m cap news hx hl ?_ h1 h63 hbytes hbase (fun v' w' h2 h3 _ => h v' w' h2 h3)
    intro j u hu
    have hj : j < news.length := (List.getElem?_eq_some_iff.1 hu).1
    have hm : 0 < m := by
      rcases Nat.eq_zero_or_pos m with h0 | h0
      · subst h0; rw [Nat.zero_mul] at hl; omega
      · exact h0
    obtain ⟨b, off, he, hcell⟩ := hc hm
    obtain rfl := Option.some.inj he
    rw [Addr.add_lit, hcell j (by omega), hu]
end Go.Proofs.YtecpeegbfeijaaaDoor

namespace Go.Proofs.YtecpeegbfeijaaaDoor
set_option maxRecDepth 100000
open Go.RowKit

def IntOk (n : Int) : Prop := -9223372036854775808 ≤ n ∧ n ≤ 9223372036854775807
structure OpV where
  wr : Bool
  key : Int
  val : Int
def OpV.v (o : OpV) : Value := .agg #[.bool o.wr, .int .i64 o.key, .int .i64 o.val]
def OpV.ok (o : OpV) : Prop := IntOk o.key ∧ IntOk o.val
def opZ : OpV := ⟨false, 0, 0⟩
/-- May there be such an operation? -/
def mayO (o : OpV) : Bool := (decide (0 ≤ o.key) && decide (o.key < 64)) && (decide (0 ≤ o.val) && decide (o.val ≤ 2147483647)) && (!o.wr || o.val != 0)
theorem mayO_iff (o : OpV) : mayO o = true ↔ (0 ≤ o.key ∧ o.key < 64) ∧ (0 ≤ o.val ∧ o.val ≤ 2147483647) ∧ (o.wr = true → o.val ≠ 0) := by
  obtain ⟨wr, key, val⟩ := o
  unfold mayO
  cases wr <;> simp [and_assoc]
theorem box_below (w : World) (o : Obj) : Below w.heap.size w (w.alloc o) := (Below.refl _ _).alloc (Nat.le_refl _) _
set_option maxHeartbeats 1000000 in
theorem right_any (wr : Bool) (key val : Int) (w : World) :
    Calls Tryd.prog 76 #[.agg #[.bool wr, .int .i64 key, .int .i64 val]] w fun e w' => e = .returned (.bool (mayO ⟨wr, key, val⟩)) ∧ Below w.heap.size w w' := by
  have hi := mayO_iff ⟨wr, key, val⟩
  by_cases h : mayO ⟨wr, key, val⟩ = true
  · obtain ⟨⟨h1, h2⟩, ⟨h3, h4⟩, h5⟩ := hi.1 h
    have HM := Lib.hid h
    have c1 : ¬ key < 0 := by simpa using h1
    have c2 : ¬ (64 : Int) ≤ key := by simp at h2; omega
    have c3 : ¬ val < 0 := by simpa using h3
    have c4 : ¬ (2147483647 : Int) < val := by simp at h4; omega
    simp only at h1 h2 h3 h4 h5
    clear h hi
    cases wr
    · clear h5
      go_enter Tryd.func76, Tryd.ntmps76
      go_wp2_with fail
      go_ret
      exact ⟨ret_b HM.out.symm, box_below _ _⟩
    · have c5 : (val != 0) = true := by rw [bne_iff_ne]; exact h5 rfl
      clear h5
      go_enter Tryd.func76, Tryd.ntmps76
      go_wp2_with fail
      go_ret
      exact ⟨ret_b HM.out.symm, box_below _ _⟩
  · have HM : Hid (mayO ⟨wr, key, val⟩ = false) := Lib.hid (by simpa using h)
    have hn : ¬ ((0 ≤ key ∧ key < 64) ∧ (0 ≤ val ∧ val ≤ 2147483647) ∧ (wr = true → val ≠ 0)) := fun k => h (hi.2 k)
    clear h hi
    by_cases c1 : key < 0
    · go_enter Tryd.func76, Tryd.ntmps76
      clear hn
      go_wp2_with fail
      go_ret
      exact ⟨ret_b HM.out.symm, box_below _ _⟩
    by_cases c2 : (64 : Int) ≤ key
    · clear hn
      go_enter Tryd.func76, Tryd.ntmps76
      go_wp2_with fail
      go_ret
      exact ⟨ret_b HM.out.symm, box_below _ _⟩
    by_cases c3 : val < 0
    · clear hn
      go_enter Tryd.func76, Tryd.ntmps76
      go_wp2_with fail
      go_ret
      exact ⟨ret_b HM.out.symm, box_below _ _⟩
    by_cases c4 : (2147483647 : Int) < val
    · clear hn
      go_enter Tryd.func76, Tryd.ntmps76
      go_wp2_with fail
      go_ret
      exact ⟨ret_b HM.out.symm, box_below _ _⟩
    cases wr
    · exfalso; apply hn; exact ⟨⟨by omega, by omega⟩, ⟨by omega, by omega⟩, fun h => by cases h⟩
    · have hv : val = 0 := by
        by_cases h : val = 0
        · exact h
        · exfalso; apply hn; exact ⟨⟨by omega, by omega⟩, ⟨by omega, by omega⟩, fun _ => h⟩
      subst hv
      clear hn
      go_enter Tryd.func76, Tryd.ntmps76
      go_wp2_with fail
      go_ret
      exact ⟨ret_b HM.out.symm, box_below _ _⟩
set_option maxHeartbeats 1000000 in
theorem read_any (key val : Int) (w : World) :
    Calls Tryd.prog 17 #[.int .i64 key, .int .i64 val] w fun e w' => e = .returned (.agg #[.bool false, .int .i64 key, .int .i64 val]) ∧ Below w.heap.size w w' := by
  go_enter Tryd.func17, Tryd.ntmps17
  go_wp2_with fail
  refine bodyPost_ret (v := .agg #[.bool false, .int .i64 key, .int .i64 val]) (by simp [results, Tryd.results17, go_sem]) rfl ⟨rfl, ?_⟩
  exact box_below _ _
/-- Behind a region: what calls one behind the other leave alone. -/
theorem below_then {w0 w1 w2 : World} (h : Below w0.heap.size w0 w1) (k : Below w1.heap.size w1 w2) : Below w0.heap.size w0 w2 := h.trans (k.mono h.size)
theorem opBlock (w : World) (x y z : Value) (t : TypeId) : (w.alloc (.cells #[x, y, z] t)).cell? ⟨w.heap.size, 0, none⟩ = some x ∧ (w.alloc (.cells #[x, y, z] t)).cell? ⟨w.heap.size, 1, none⟩ = some y ∧ (w.alloc (.cells #[x, y, z] t)).cell? ⟨w.heap.size, 2, none⟩ = some z := by
  refine ⟨?_, ?_, ?_⟩ <;> simp
/-- The cells of operations in a row. -/
def opV (l : List OpV) : List Value := l.flatMap fun o => [.bool o.wr, .int .i64 o.key, .int .i64 o.val]
theorem opV_len (l : List OpV) : (opV l).length = l.length * 3 := by
  induction l with
  | nil => rfl
  | cons a l ih => unfold opV at *; rw [List.flatMap_cons, List.length_append, ih]; simp; omega
theorem opV_at : ∀ (l : List OpV) (k : Nat) (hk : k < l.length), (opV l)[k * 3]? = some (.bool l[k].wr) ∧ (opV l)[k * 3 + 1]? = some (.int .i64 l[k].key) ∧ (opV l)[k * 3 + 2]? = some (.int .i64 l[k].val)
  | a :: l, 0, _ => ⟨rfl, rfl, rfl⟩
  | a :: l, k + 1, hk => by
    obtain ⟨h0, h1, h2⟩ := opV_at l k (by simpa using hk)
    have e : ∀ j, (opV (a :: l))[(k + 1) * 3 + j]? = (opV l)[k * 3 + j]? := fun j => by
      unfold opV
      rw [List.flatMap_cons, show (k + 1) * 3 + j = 3 + (k * 3 + j) from by omega]
      rw [List.getElem?_append_right (by simp)]
      simp
    exact ⟨(e 0).trans h0, (e 1).trans h1, (e 2).trans h2⟩
/-- The slice v holds these operations. -/
def Ops (w : World) (v : Value) (l : List OpV) : Prop := Row w v l.length 3 (opV l)
theorem Ops.below {w w' : World} {v : Value} {l : List OpV} (h : Ops w v l) (hb : Below w.heap.size w w') : Ops w' v l := Row.below h hb
theorem Ops.form {w : World} {v : Value} {l : List OpV} (h : Ops w v l) : ∃ ao cap, v = .slice ao l.length cap ∧ l.length ≤ 9223372036854775807 := by
  obtain ⟨_, ao, cap, rfl, hm, _, _⟩ := h
  exact ⟨ao, cap, rfl, Nat.le_trans hm.1 hm.2⟩
theorem Ops.at {w : World} {ao : Option Addr} {n cap : Nat} {l : List OpV} (h : Ops w (.slice ao n cap) l) {k : Nat} (hk : k < l.length) :
    ∃ b off, ao = some ⟨b, off, none⟩ ∧ w.cell? ⟨b, off + k * 3, none⟩ = some (.bool l[k].wr) ∧ w.cell? ⟨b, off + k * 3 + 1, none⟩ = some (.int .i64 l[k].key) ∧ w.cell? ⟨b, off + k * 3 + 2, none⟩ = some (.int .i64 l[k].val) := by
  obtain ⟨_, ao', cap', he, hm, _, hc⟩ := h
  obtain ⟨rfl, _, _⟩ : ao = ao' ∧ n = l.length ∧ cap = cap' := by simpa using he
  obtain ⟨b, off, rfl, hcell⟩ := hc (by omega)
  obtain ⟨h0, h1, h2⟩ := opV_at l k hk
  refine ⟨b, off, rfl, ?_, ?_, ?_⟩
  · rw [hcell (k * 3) (by omega), h0]
  · rw [Nat.add_assoc, hcell (k * 3 + 1) (by omega), h1]
  · rw [Nat.add_assoc, hcell (k * 3 + 2) (by omega), h2]
def allM (l : List OpV) : Bool := l.all mayO
theorem allM_succ (l : List OpV) (k : Nat) (hk : k < l.length) : allM (l.take (k + 1)) = (allM (l.take k) && mayO l[k]) := by
  unfold allM; rw [List.take_succ_eq_append_getElem hk, List.all_append]; simp
theorem allM_no (l : List OpV) (k : Nat) (hk : k < l.length) (h : mayO l[k] = false) : allM l = false := by
  unfold allM; exact List.all_eq_false.2 ⟨l[k], List.getElem_mem hk, by simp [h]⟩
end Go.Proofs.YtecpeegbfeijaaaDoor

namespace Go.Proofs.YtecpeegbfeijaaaDoor
set_option maxRecDepth 100000
open Go.ChangeShapes Go.WideShapes Go.ChangeAt Go.RowKit Go.Deep

theorem cellsOp : Tryd.prog.cellsOf 54 = 3 := by kernel_rfl
theorem ops_of_cells {H : Type} {enc : TypeId × Value → H} {W : World} {v : Value} {fuel : Nat} {x : DataW H × List MemPlace}
    (hf : DataW.trod enc Tryd.prog W 0 (fun _ => true) true fuel 56 [v] = some x) : ∃ l, Ops W v l ∧ (∀ o ∈ l, o.ok) ∧ ((∀ n ∈ DataW.weights Tryd.prog 56 x.1, n ≤ reachBytes) → l.length ≤ 6000000000000) := by
  rcases open_slice Tryd.underlying56 hf with ⟨hcs, _⟩ | ⟨a, len, cap, m, n, D, Pl, hcs, _, hl, hm, hmm, hx, hi⟩
  · obtain rfl : v = .slice none 0 0 := by simpa using hcs
    exact ⟨[], ⟨rfl, none, 0, rfl, by simp, (fun _ => ⟨rfl, rfl⟩), (fun h => by simp at h)⟩, by simp, by simp⟩
  · obtain rfl : v = .slice (some a) len cap := by simpa using hcs
    simp only [if_true] at hmm
    have key : ∀ i, ∃ o : OpV, i < len → o.ok ∧ W.cell? ((a.add (i * 3)).add 0) = some (.bool o.wr) ∧ W.cell? ((a.add (i * 3)).add 1) = some (.int .i64 o.key) ∧ W.cell? ((a.add (i * 3)).add 2) = some (.int .i64 o.val) := fun i => by
      by_cases hlt : i < len
      · obtain ⟨cs', hc, ht⟩ := hi i (by omega)
        rw [cellsOp] at hc
        obtain ⟨_, hcl, hat⟩ := World.cells?_some hc
        obtain ⟨y0, y1, y2, n', _, _, h0, h1, h2⟩ := trod_struct3 Tryd.underlying54 ht
        match cs', hcl with
        | [x0, x1, x2], _ =>
          obtain ⟨b, e0, _⟩ := DataW.trod_bool Tryd.underlying4 h0
          obtain ⟨k, e1, _, w1⟩ := DataW.trod_int Tryd.underlying3 h1
          obtain ⟨z, e2, _, w2⟩ := DataW.trod_int Tryd.underlying3 h2
          have k0 : Tryd.prog.cellsOf 4 = 1 := by kernel_rfl
          have k1 : Tryd.prog.cellsOf 3 = 1 := by kernel_rfl
          simp [k0, k1] at e0 e1 e2
          subst e0; subst e1; subst e2
          exact ⟨⟨b, k, z⟩, fun _ => ⟨⟨bounds_i64 w1, bounds_i64 w2⟩, hat 0 (by omega), hat 1 (by omega), hat 2 (by omega)⟩⟩
      · exact ⟨opZ, fun h => absurd h hlt⟩
    obtain ⟨O, hO⟩ := Classical.skolem.1 key
    have hlen : ((List.range len).map O).length = len := by simp
    have hel : ∀ (i : Nat) (h : i < ((List.range len).map O).length), ((List.range len).map O)[i] = O i := fun i h => by simp
    refine ⟨(List.range len).map O, ?_, ?_, ?_⟩
    · generalize (List.range len).map O = l at *
      subst hlen
      refine ⟨opV_len l, some a, cap, rfl, ⟨hl, hm⟩, (fun h => by cases h), fun hn => ?_⟩
      obtain ⟨b, off, spot⟩ := a
      have hspot : spot = none := by
        have := (hO 0 hn).2.1
        simpa [Addr.add] using World.cell?_spot this
      subst hspot
      refine ⟨b, off, rfl, fun i hii => ?_⟩
      have hk : i / 3 < l.length := by omega
      obtain ⟨_, c0, c1, c2⟩ := hO (i / 3) hk
      simp only [Addr.add_lit] at c0 c1 c2
      obtain ⟨e0, e1, e2⟩ := opV_at l (i / 3) hk
      rw [hel _ hk] at e0 e1 e2
      have hm3 : i % 3 = 0 ∨ i % 3 = 1 ∨ i % 3 = 2 := by omega
      rcases hm3 with h | h | h
      · rw [show i = i / 3 * 3 from by omega, e0, ← c0]; rfl
      · rw [show i = i / 3 * 3 + 1 from by omega, e1, ← c1, ← Nat.add_assoc]
      · rw [show i = i / 3 * 3 + 2 from by omega, e2, ← c2, ← Nat.add_assoc]
    · intro o ho
      obtain ⟨i, hi2, rfl⟩ := List.mem_map.1 ho
      exact (hO i (List.mem_range.1 hi2)).1
    · intro hw
      rw [hlen]
      have hb24 : Tryd.prog.bytesOf 54 = 24 := by kernel_rfl
      have := hw ((((List.range len).map D).length + ((List.range (m - len)).map fun j => D (len + j)).length) * Tryd.prog.bytesOf 54) (by rw [hx]; simp [DataW.weights, Tryd.underlying56])
      rw [hb24] at this
      unfold reachBytes at this
      simp at this
      omega
end Go.Proofs.YtecpeegbfeijaaaDoor

namespace Go.Proofs.YtecpeegbfeijaaaDoor
set_option maxRecDepth 100000
open Go.RowKit

/-- A transaction: its numbers, its slice of operations, and what that holds. -/
structure TxnV where
  s : Int
  b : Int
  c : Int
  v : Value
  l : List OpV
def TxnV.ok (t : TxnV) : Prop := (IntOk t.s ∧ IntOk t.b ∧ IntOk t.c) ∧ ∀ o ∈ t.l, o.ok
def txV (h : List TxnV) : List Value := h.flatMap fun t => [.int .i64 t.s, .int .i64 t.b, .int .i64 t.c, t.v]
theorem txV_len (h : List TxnV) : (txV h).length = h.length * 4 := by
  induction h with
  | nil => rfl
  | cons a l ih => unfold txV at *; rw [List.flatMap_cons, List.length_append, ih]; simp; omega
theorem txV_at : ∀ (l : List TxnV) (k : Nat) (hk : k < l.length), (txV l)[k * 4]? = some (.int .i64 l[k].s) ∧ (txV l)[k * 4 + 1]? = some (.int .i64 l[k].b) ∧ (txV l)[k * 4 + 2]? = some (.int .i64 l[k].c) ∧ (txV l)[k * 4 + 3]? = some l[k].v
  | a :: l, 0, _ => ⟨rfl, rfl, rfl, rfl⟩
  | a :: l, k + 1, hk => by
    obtain ⟨h0, h1, h2, h3⟩ := txV_at l k (by simpa using hk)
    have e : ∀ j, (txV (a :: l))[(k + 1) * 4 + j]? = (txV l)[k * 4 + j]? := fun j => by
      unfold txV
      rw [List.flatMap_cons, show (k + 1) * 4 + j = 4 + (k * 4 + j) from by omega]
      rw [List.getElem?_append_right (by simp)]
      simp
    exact ⟨(e 0).trans h0, (e 1).trans h1, (e 2).trans h2, (e 3).trans h3⟩
/-- The slice v holds these transactions. -/
def Txns (w : World) (v : Value) (h : List TxnV) : Prop := Row w v h.length 4 (txV h) ∧ ∀ t ∈ h, Ops w t.v t.l
theorem Txns.below {w w' : World} {v : Value} {h : List TxnV} (hT : Txns w v h) (hb : Below w.heap.size w w') : Txns w' v h := ⟨Row.below hT.1 hb, fun t ht => (hT.2 t ht).below hb⟩
theorem Txns.form {w : World} {v : Value} {l : List TxnV} (h : Txns w v l) : ∃ ao cap, v = .slice ao l.length cap ∧ l.length ≤ 9223372036854775807 := by
  obtain ⟨⟨_, ao, cap, rfl, hm, _, _⟩, _⟩ := h
  exact ⟨ao, cap, rfl, Nat.le_trans hm.1 hm.2⟩
theorem Txns.at {w : World} {ao : Option Addr} {n cap : Nat} {l : List TxnV} (h : Txns w (.slice ao n cap) l) {k : Nat} (hk : k < l.length) :
    ∃ b off, ao = some ⟨b, off, none⟩ ∧ w.cell? ⟨b, off + k * 4, none⟩ = some (.int .i64 l[k].s) ∧ w.cell? ⟨b, off + k * 4 + 1, none⟩ = some (.int .i64 l[k].b) ∧ w.cell? ⟨b, off + k * 4 + 2, none⟩ = some (.int .i64 l[k].c) ∧ w.cell? ⟨b, off + k * 4 + 3, none⟩ = some l[k].v := by
  obtain ⟨⟨_, ao', cap', he, hm, _, hc⟩, _⟩ := h
  obtain ⟨rfl, _, _⟩ : ao = ao' ∧ n = l.length ∧ cap = cap' := by simpa using he
  obtain ⟨b, off, rfl, hcell⟩ := hc (by omega)
  obtain ⟨h0, h1, h2, h3⟩ := txV_at l k hk
  refine ⟨b, off, rfl, ?_, ?_, ?_, ?_⟩
  · rw [hcell (k * 4) (by omega), h0]
  · rw [Nat.add_assoc, hcell (k * 4 + 1) (by omega), h1]
  · rw [Nat.add_assoc, hcell (k * 4 + 2) (by omega), h2]
  · rw [Nat.add_assoc, hcell (k * 4 + 3) (by omega), h3]
theorem Txns.ops {w : World} {v : Value} {l : List TxnV} (h : Txns w v l) {k : Nat} (hk : k < l.length) : Ops w l[k].v l[k].l := h.2 _ (List.getElem_mem hk)
end Go.Proofs.YtecpeegbfeijaaaDoor

namespace Go.Proofs.YtecpeegbfeijaaaDoor
set_option maxRecDepth 100000
open Go.ChangeShapes Go.WideShapes Go.ChangeAt Go.RowKit Go.Deep

theorem cellsTxn : Tryd.prog.cellsOf 58 = 4 := by kernel_rfl
theorem weightsAll_mem {H : Type} {P : Program} {e : TypeId} {d : DataW H} {n : Nat} (hn : n ∈ d.weights P e) : ∀ {ds : List (DataW H)}, d ∈ ds → n ∈ DataW.weightsAll P e ds
  | a :: ds, h => by
    unfold DataW.weightsAll
    rcases List.mem_cons.1 h with rfl | h
    · exact List.mem_append_left _ hn
    · exact List.mem_append_right _ (weightsAll_mem hn h)
end Go.Proofs.YtecpeegbfeijaaaDoor

namespace Go.Proofs.YtecpeegbfeijaaaDoor
set_option maxRecDepth 100000
open Go.ChangeShapes Go.WideShapes Go.ChangeAt Go.RowKit Go.Deep

theorem txns_of_cells {H : Type} {enc : TypeId × Value → H} {W : World} {v : Value} {fuel : Nat} {x : DataW H × List MemPlace}
    (hf : DataW.trod enc Tryd.prog W 0 (fun _ => true) true fuel 22 [v] = some x) (hwt : ∀ n ∈ DataW.weights Tryd.prog 22 x.1, n ≤ reachBytes) : ∃ l, Txns W v l ∧ (∀ t ∈ l, t.ok) ∧ ∀ t ∈ l, t.l.length ≤ 6000000000000 := by
  rcases open_slice Tryd.underlying22 hf with ⟨hcs, _⟩ | ⟨a, len, cap, m, n, D, Pl, hcs, _, hl, hm, hmm, hx, hi⟩
  · obtain rfl : v = .slice none 0 0 := by simpa using hcs
    exact ⟨[], ⟨⟨rfl, none, 0, rfl, by simp, (fun _ => ⟨rfl, rfl⟩), (fun h => by simp at h)⟩, by simp⟩, by simp, by simp⟩
  · obtain rfl : v = .slice (some a) len cap := by simpa using hcs
    simp only [if_true] at hmm
    have key : ∀ i, ∃ t : TxnV, i < len → (t.ok ∧ t.l.length ≤ 6000000000000) ∧ Ops W t.v t.l ∧ W.cell? ((a.add (i * 4)).add 0) = some (.int .i64 t.s) ∧ W.cell? ((a.add (i * 4)).add 1) = some (.int .i64 t.b) ∧ W.cell? ((a.add (i * 4)).add 2) = some (.int .i64 t.c) ∧ W.cell? ((a.add (i * 4)).add 3) = some t.v := fun i => by
      by_cases hlt : i < len
      · obtain ⟨cs', hc, ht⟩ := hi i (by omega)
        rw [cellsTxn] at hc
        obtain ⟨_, hcl, hat⟩ := World.cells?_some hc
        obtain ⟨y0, y1, y2, y3, n', hy, _, h0, h1, h2, h3⟩ := Joins.trod_struct4 Tryd.underlying58 ht
        match cs', hcl with
        | [x0, x1, x2, x3], _ =>
          obtain ⟨s, e0, _, w0⟩ := DataW.trod_int Tryd.underlying3 h0
          obtain ⟨b, e1, _, w1⟩ := DataW.trod_int Tryd.underlying3 h1
          obtain ⟨c, e2, _, w2⟩ := DataW.trod_int Tryd.underlying3 h2
          have k1 : Tryd.prog.cellsOf 3 = 1 := by kernel_rfl
          have k3 : Tryd.prog.cellsOf 56 = 1 := by kernel_rfl
          simp [k1] at e0 e1 e2
          subst e0; subst e1; subst e2
          simp [k3] at h3
          obtain ⟨l, hlo, hok, hlw⟩ := ops_of_cells h3
          have hll := hlw (fun q hq => hwt q (by
            rw [show x.1 = _ from congrArg Prod.fst hx]
            simp only [DataW.weights, Tryd.underlying22]
            refine List.mem_cons_of_mem _ (List.mem_append_left _ (weightsAll_mem (d := D i) ?_ (List.mem_map.2 ⟨i, List.mem_range.2 hlt, rfl⟩)))
            have hy1 := congrArg Prod.fst hy
            rw [show D i = _ from hy1]
            simp only [DataW.weights, Tryd.underlying58, DataW.weightsEach, List.map_cons, List.map_nil]
            simp [hq]))
          exact ⟨⟨s, b, c, x3, l⟩, fun _ => ⟨⟨⟨⟨bounds_i64 w0, bounds_i64 w1, bounds_i64 w2⟩, hok⟩, hll⟩, hlo, hat 0 (by omega), hat 1 (by omega), hat 2 (by omega), hat 3 (by omega)⟩⟩
      · exact ⟨⟨0, 0, 0, .nilIface, []⟩, fun h => absurd h hlt⟩
    obtain ⟨O, hO⟩ := Classical.skolem.1 key
    have hlen : ((List.range len).map O).length = len := by simp
    have hel : ∀ (i : Nat) (h : i < ((List.range len).map O).length), ((List.range len).map O)[i] = O i := fun i h => by simp
    refine ⟨(List.range len).map O, ⟨?_, ?_⟩, ?_, ?_⟩
    · generalize (List.range len).map O = l at *
      subst hlen
      refine ⟨txV_len l, some a, cap, rfl, ⟨hl, hm⟩, (fun h => by cases h), fun hn => ?_⟩
      obtain ⟨b, off, spot⟩ := a
      have hspot : spot = none := by
        have := (hO 0 hn).2.2.1
        simpa [Addr.add] using World.cell?_spot this
      subst hspot
      refine ⟨b, off, rfl, fun i hii => ?_⟩
      have hk : i / 4 < l.length := by omega
      obtain ⟨_, _, c0, c1, c2, c3⟩ := hO (i / 4) hk
      simp only [Addr.add_lit] at c0 c1 c2 c3
      obtain ⟨e0, e1, e2, e3⟩ := txV_at l (i / 4) hk
      rw [hel _ hk] at e0 e1 e2 e3
      have hm4 : i % 4 = 0 ∨ i % 4 = 1 ∨ i % 4 = 2 ∨ i % 4 = 3 := by omega
      rcases hm4 with h | h | h | h
      · rw [show i = i / 4 * 4 from by omega, e0, ← c0]; rfl
      · rw [show i = i / 4 * 4 + 1 from by omega, e1, ← c1, ← Nat.add_assoc]
      · rw [show i = i / 4 * 4 + 2 from by omega, e2, ← c2, ← Nat.add_assoc]
      · rw [show i = i / 4 * 4 + 3 from by omega, e3, ← c3, ← Nat.add_assoc]
    · intro t ht
      obtain ⟨i, hi2, rfl⟩ := List.mem_map.1 ht
      exact (hO i (List.mem_range.1 hi2)).2.1
    · intro t ht
      obtain ⟨i, hi2, rfl⟩ := List.mem_map.1 ht
      exact (hO i (List.mem_range.1 hi2)).1.1
    · intro t ht
      obtain ⟨i, hi2, rfl⟩ := List.mem_map.1 ht
      exact (hO i (List.mem_range.1 hi2)).1.2
theorem cellsU8C : Tryd.prog.cellsOf 5 = 1 := by kernel_rfl
theorem bytes_of_cells {H : Type} {enc : TypeId × Value → H} {W : World} {v : Value} {fuel : Nat} {x : DataW H × List MemPlace}
    (hf : DataW.trod enc Tryd.prog W 0 (fun _ => true) true fuel 23 [v] = some x) : ∃ xs : List Int, Row W v xs.length 1 (xs.map (Value.int .u8)) ∧ ∀ n ∈ xs, 0 ≤ n ∧ n < 256 := by
  rcases open_ints Tryd.underlying23 Tryd.underlying5 cellsU8C hf with ⟨hcs, hx⟩ | ⟨a, len, cap, zs, hcs, _, hl, hm, hz, hx, hcell, hwz⟩
  · obtain rfl : v = .slice none 0 0 := by simpa using hcs
    exact ⟨[], ⟨rfl, none, 0, rfl, by simp, (fun _ => ⟨rfl, rfl⟩), (fun h => by simp at h)⟩, by simp⟩
  · obtain rfl : v = .slice (some a) len cap := by simpa using hcs
    simp only [if_true] at hz
    have hlen : (zs.take len).length = len := by simp; omega
    refine ⟨zs.take len, ⟨by simp, some a, cap, by rw [hlen], by rw [hlen]; omega, (fun h => by cases h), (fun hn => ?_)⟩, fun n hn => by have := bounds_u8 (hwz n (List.mem_of_mem_take hn)); omega⟩
    obtain ⟨b, off, spot⟩ := a
    have hspot : spot = none := by simpa [Addr.add] using World.cell?_spot (hcell 0 (by omega))
    subst hspot
    refine ⟨b, off, rfl, fun i hi => ?_⟩
    have hi' : i < len := by omega
    have := hcell i (by omega)
    rw [Addr.add_lit] at this
    rw [this]
    simp [hi', List.getD, List.getElem?_eq_getElem (show i < zs.length by omega)]
end Go.Proofs.YtecpeegbfeijaaaDoor

namespace Go.Proofs.YtecpeegbfeijaaaDoor
set_option maxRecDepth 100000
open Go.RowKit

/-- The set of the numbers below 64 that a test lets by. -/
def mkS (p : Nat → Bool) : Nat := ((List.range 64).filter p).foldl (fun s i => s ||| 2 ^ i) 0
theorem testBit_fold (l : List Nat) : ∀ (s i : Nat), (l.foldl (fun s i => s ||| 2 ^ i) s).testBit i = (s.testBit i || l.contains i) := by
  induction l with
  | nil => intro s i; simp
  | cons a l ih =>
    intro s i
    rw [List.foldl_cons, ih, Nat.testBit_or, Nat.testBit_two_pow, List.contains_cons, Bool.or_assoc]
    congr 2
    rw [Bool.eq_iff_iff, decide_eq_true_iff, beq_iff_eq]
    exact ⟨fun h => h.symm, fun h => h.symm⟩
theorem testBit_mkS (p : Nat → Bool) (i : Nat) : (mkS p).testBit i = (decide (i < 64) && p i) := by
  unfold mkS
  rw [testBit_fold, Nat.zero_testBit, Bool.false_or, Bool.eq_iff_iff]
  simp
theorem isSet_mkS (p : Nat → Bool) : IsSet (mkS p) := by
  apply isSet_of_bits
  intro i hi
  rw [testBit_mkS]
  have : ¬ i < 64 := by omega
  simp [this]
theorem mkS_eq {s : Nat} {p : Nat → Bool} (hs : IsSet s) (h : ∀ i, i < 64 → s.testBit i = p i) : s = mkS p := by
  apply set_ext hs (isSet_mkS p)
  intro i hi
  rw [testBit_mkS, h i hi]; simp [hi]
theorem mkS_congr {p q : Nat → Bool} (h : ∀ i, i < 64 → p i = q i) : mkS p = mkS q := by
  apply mkS_eq (isSet_mkS p)
  intro i hi
  rw [testBit_mkS, h i hi]; simp [hi]
theorem mkS_false : mkS (fun _ => false) = 0 := (mkS_eq (by unfold IsSet; omega) fun i _ => by simp).symm
/-- A relation: does a stand to b? -/
abbrev Mat := Nat → Nat → Bool
/-- The array of a relation's rows. -/
def rowsA (R : Mat) : Array Value := ((List.range 64).map fun i => Value.int .u64 ((mkS (R i) : Nat) : Int)).toArray
theorem rowsA_size (R : Mat) : (rowsA R).size = 64 := by simp [rowsA]
theorem rowsA_at (R : Mat) {i : Nat} (hi : i < 64) : (rowsA R)[i]? = some (.int .u64 ((mkS (R i) : Nat) : Int)) := by
  simp [rowsA, hi]
/-- A relation with one row anew. -/
def rowSet (R : Mat) (a : Nat) (p : Nat → Bool) : Mat := fun i => if i = a then p else R i
theorem rowsA_set (R : Mat) (a s : Nat) (p : Nat → Bool) (hs : s = mkS p) : (rowsA R).setIfInBounds a (.int .u64 (s : Int)) = rowsA (rowSet R a p) := by
  subst hs
  apply Array.ext_getElem?
  intro i
  by_cases hi : i < 64
  · rw [rowsA_at _ hi, Array.getElem?_setIfInBounds]
    unfold rowSet
    by_cases e : a = i
    · subst e; simp [rowsA_size, hi]
    · rw [if_neg e, rowsA_at R hi, if_neg (fun h => e h.symm)]
  · rw [Array.getElem?_eq_none (by rw [Array.size_setIfInBounds, rowsA_size]; omega), Array.getElem?_eq_none (by rw [rowsA_size]; omega)]
theorem rowsA_congr {R S : Mat} (h : ∀ i j, i < 64 → j < 64 → R i j = S i j) : rowsA R = rowsA S := by
  apply Array.ext_getElem?
  intro i
  by_cases hi : i < 64
  · rw [rowsA_at _ hi, rowsA_at _ hi, mkS_congr fun j hj => h i j hi hj]
  · rw [Array.getElem?_eq_none (by rw [rowsA_size]; omega), Array.getElem?_eq_none (by rw [rowsA_size]; omega)]
theorem rowsA_inj {R S : Mat} (h : rowsA R = rowsA S) : ∀ i j, i < 64 → j < 64 → R i j = S i j := by
  intro i j hi hj
  have h1 := rowsA_at R hi
  rw [h, rowsA_at S hi] at h1
  have h2 : mkS (R i) = mkS (S i) := by
    have := Option.some.inj h1
    simp at this; omega
  have h3 := congrArg (fun s => s.testBit j) h2
  simpa [testBit_mkS, hj] using h3
/-- The block that holds a relation. -/
def RelAt (w : World) (g : Nat) (t : TypeId) (R : Mat) : Prop := w.heap[g]? = some (.cells (rowsA R) t (0, 0))
theorem RelAt.cell {w : World} {g : Nat} {t : TypeId} {R : Mat} (h : RelAt w g t R) {i : Nat} (hi : i < 64) : w.cell? ⟨g, i, none⟩ = some (.int .u64 ((mkS (R i) : Nat) : Int)) := by
  rw [cell_of_row w g i _ _ _ h, rowsA_at R hi]
theorem RelAt.free {w : World} {g : Nat} {t : TypeId} {R : Mat} (h : RelAt w g t R) (i : Nat) : w.frozen? ⟨g, i, none⟩ = false := frozen_of_row w g i _ _ h
theorem RelAt.lt {w : World} {g : Nat} {t : TypeId} {R : Mat} (h : RelAt w g t R) : g < w.heap.size := by
  by_cases h0 : g < w.heap.size
  · exact h0
  · unfold RelAt at h; rw [Array.getElem?_eq_none (Nat.le_of_not_lt h0)] at h; cases h
theorem RelAt.below {w w' : World} {g B : Nat} {t : TypeId} {R : Mat} (h : RelAt w g t R) (hb : Below B w w') (hB : g < B) : RelAt w' g t R := by
  unfold RelAt at *; rw [hb.block g hB, h]
theorem RelAt.store {w : World} {g : Nat} {t : TypeId} {R : Mat} (h : RelAt w g t R) (a s : Nat) (p : Nat → Bool) (hs : s = mkS p) :
    RelAt (w.setCell ⟨g, a, none⟩ (.int .u64 (s : Int))) g t (rowSet R a p) := by
  unfold RelAt at *
  rw [heap_setCell_same w g a _ t _ h, rowsA_set R a s p hs]
theorem RelAt.other {w : World} {g : Nat} {t : TypeId} {R : Mat} (h : RelAt w g t R) {k : Addr} (hk : g ≠ k.block) (v : Value) : RelAt (w.setCell k v) g t R := by
  unfold RelAt at *; rw [heap_setCell_other w k g v hk, h]
theorem RelAt.alloc {w : World} {g : Nat} {t : TypeId} {R : Mat} (h : RelAt w g t R) (o : Obj) : RelAt (w.alloc o) g t R := by
  have hl := RelAt.lt h
  unfold RelAt at *; rw [Below.heap_alloc w o g hl, h]
theorem RelAt.new (w : World) (t : TypeId) (R : Mat) : RelAt (w.alloc (.cells (rowsA R) t)) w.heap.size t R := heap_alloc_new w _
/-- The relation that has nothing. -/
def noR : Mat := fun _ _ => false
theorem rowsA_none : rowsA noR = Array.replicate 64 (.int .u64 0) := by
  apply Array.ext_getElem?
  intro i
  by_cases hi : i < 64
  · rw [rowsA_at _ hi, Array.getElem?_replicate, if_pos hi]
    have : mkS (noR i) = 0 := mkS_false
    rw [this]; rfl
  · rw [Array.getElem?_eq_none (by rw [rowsA_size]; omega), Array.getElem?_eq_none (by simp; omega)]
theorem RelAt.made (w : World) (t : TypeId) (R : Mat) {cs : Array Value} {g : Nat} (hg : g = w.heap.size) (hc : cs = rowsA R) : RelAt (w.alloc (.cells cs t)) g t R := by
  subst hg hc; exact RelAt.new w t R
end Go.Proofs.YtecpeegbfeijaaaDoor

namespace Go.Proofs.YtecpeegbfeijaaaDoor
set_option maxRecDepth 100000
open Go.RowKit

theorem infoInt : (Tryd.prog.info? 3).map (fun i => (i.zero, i.size, i.bytes)) = some (some (.int .i64 0), 1, 8) := by kernel_rfl
theorem below_app {B : Nat} {W wr w1 : World} {o : Obj} {e : TypeId} {n size : Nat} {v : Value} {xs : List Value} (hb : Below B W wr) (hB : B ≤ W.heap.size) (hown : wr.ownsRow B e size v n xs)
    (hg : (wr.alloc o).grownBy w1 v.ownBlock) : Below B W w1 :=
  (hb.alloc (Nat.le_trans hB hb.size) o).grown hg (by have := hb.size; simp; omega) fun k hk => (hown.lt k hk).1

end Go.Proofs.YtecpeegbfeijaaaDoor

namespace Go.Proofs.YtecpeegbfeijaaaDoor
set_option maxRecDepth 100000
open Go.RowKit

theorem lst_step {S c : Nat} {acc : List Nat} (hl : lst S = acc ++ lst c) (hne : lst c ≠ []) : lst S = (acc ++ [fst c]) ++ lst (woS c (fst c : Int)) := by
  rw [hl, List.append_assoc, List.singleton_append, ← lst_cons hne]
theorem lst_less {c : Nat} (hne : lst c ≠ []) : (lst (woS c (fst c : Int))).length < (lst c).length := by
  have := congrArg List.length (lst_cons hne)
  simp at this; omega
set_option maxHeartbeats 1000000 in
theorem list_any (s : Nat) (w : World) (hs : IsSet s) (ht : Tab w) :
    Calls Tryd.prog 26 #[.int .u64 (s : Int)] w fun e w' => ∃ v, e = .returned v ∧ w'.ownsRow w.heap.size 3 1 v (lst s).length ((lst s).map fun i : Nat => Value.int .i64 (i : Int)) ∧ Below w.heap.size w w' := by
  obtain ⟨i0, hi, hz0, hz1, hz2⟩ := info_parts infoInt
  obtain ⟨B, hB⟩ : ∃ B, B = w.heap.size := ⟨_, rfl⟩
  rw [← hB]
  have HB : Hid (B = w.heap.size) := Lib.hid hB
  have hB' : B ≤ w.heap.size := by omega
  have hgB : 0 < B := by have := ht.pos; omega
  clear hB
  have hT : ∀ wr, Below B w wr → Tab wr := fun wr hb => ht.below hb hgB
  have HT := Lib.hid hT; clear hT
  have hle : (lst s).length ≤ 64 := lstTo_len s 64
  go_enter Tryd.func26, Tryd.ntmps26
  go_wp2_with (first
    | (go_at_call 51; refine (scount_any _ _ hs).mono ?_; rintro e w' ⟨rfl, rfl⟩)
    | (at_make; refine wpList_make_own _ rfl _ _ 26 rfl B 3 i0 (.int .i64 0) 1 Tryd.underlying26 hi hz0 hz1 _ _ _ (lst s).length rfl rfl rfl ?b1 ?b2 ?b3 ?_))
  case b1 => rw [hz2]; omega
  case b2 => unfold maxLen; omega
  case b3 => exact hB'
  intro w1 hown0 hg0
  have hb0 : Below B w w1 := (Below.refl B w).grown hg0 hB' (by simp)
  clear hg0
  go_wp2_with fail
  go_loopw [0, 3] (fun v x wr => ∃ (c : Nat) (acc : List Nat), IsSet c ∧ v = .int .u64 (c : Int) ∧ lst s = acc ++ lst c ∧ wr.ownsRow B 3 1 x acc.length (acc.map fun i : Nat => Value.int .i64 (i : Int)) ∧ Below B w wr)
    (fun v _ _ => (lst (intOf v).toNat).length)
  case atStart => exact ⟨s, [], hs, rfl, by simp, hown0, hb0⟩
  case round =>
    obtain ⟨c, acc, hc, rfl, hl, hown, hb⟩ := hrel
    have hsz := hb.size
    have hal : acc.length ≤ 64 := by have := congrArg List.length hl; simp at this; omega
    have HL := Lib.hid hl; clear hl
    have HTr : Hid (Tab _) := Lib.hid (HT.out _ hb)
    rcases Nat.eq_zero_or_pos c with h0 | h0
    · subst h0
      have hacc : Hid (acc = lst s) := Lib.hid (by rw [HL.out, lst_zero, List.append_nil])
      go_wp2
      go_ret
      exact ⟨_, rfl, by rw [← hacc.out]; exact hown, hb⟩
    · have hne := lst_ne hc h0
      have hwo := isSet_woS (n := (fst c : Int)) hc
      have HS := Lib.hid (lst_step HL.out hne)
      have HD := Lib.hid (lst_less hne)
      have hfl := fst_lt hne
      clear hne
      go_wp2_with (first
        | (go_at_call 52; refine (first_any c _ hc HTr.out).mono ?_; rintro e w' ⟨rfl, rfl⟩)
        | (at_builtin; refine wpList_append_own _ rfl _ _ 26 rfl B 3 i0 (.int .i64 0) 1 8 Tryd.underlying26 hi hz0 hz1 hz2 rfl (by decide) _ _ _ rfl (hown.alloc _) ⟨_, 0, none⟩ 1 1 [.int .i64 (fst c : Int)] rfl rfl ?c1 ?c2 ?c3 ?c4 ?c5 ?_))
      case c1 => exact cell_one_new _ _ _
      case c2 => intro u hu; simp at hu; subst hu; rfl
      case c3 => unfold maxLen; omega
      case c4 => omega
      case c5 => simp; omega
      intro v' w2 hown' hgrow _
      have hb' := below_app hb hB' hown hgrow
      have HT2 : Hid (Tab w2) := Lib.hid (HT.out _ hb')
      clear hown hb hgrow
      go_wp2_with (first
        | (go_at_call 52; refine (first_any c _ hc HT2.out).mono ?_; rintro e w' ⟨rfl, rfl⟩)
        | (go_at_call 47; refine (wo_any c _ _ hc).mono ?_; rintro e w' ⟨rfl, rfl⟩))
      go_roundw
      case rel => exact ⟨woS c (fst c : Int), acc ++ [fst c], hwo, rfl, HS.out, by simpa using hown', hb'⟩
      case measure => simpa [intOf] using HD.out

end Go.Proofs.YtecpeegbfeijaaaDoor

namespace Go.Proofs.YtecpeegbfeijaaaDoor
set_option maxRecDepth 100000
open Go.RowKit

theorem ints_nat (l : List Nat) : (l.map fun i : Nat => Value.int .i64 (i : Int)) = (l.map Int.ofNat).map (Value.int .i64) := by rw [List.map_map]; rfl
theorem Ints.of_nats {w : World} {base : Nat} {e : TypeId} {v : Value} {n : Nat} {l : List Nat} (h : w.ownsRow base e 1 v n (l.map fun i : Nat => Value.int .i64 (i : Int))) : Ints w v (l.map Int.ofNat) := by
  rw [ints_nat] at h; exact Ints.of_owns h

end Go.Proofs.YtecpeegbfeijaaaDoor

namespace Go.Proofs.YtecpeegbfeijaaaDoor
set_option maxRecDepth 100000
open Go.RowKit

def mayB (n : Int) : Bool := decide (0 ≤ n ∧ n < 64)
set_option maxHeartbeats 400000 in
theorem rmayn_any (n : Int) (w : World) :
    Calls Tryd.prog 74 #[.int .i64 n] w fun e w' => e = .returned (.bool (mayB n)) ∧ w = w' := by
  have H : Hid ((decide (0 ≤ n) && decide (n < 64)) = mayB n) := Lib.hid (by unfold mayB; simp)
  by_cases h0 : 0 ≤ n
  · have H1 : Hid (decide (n < 64) = mayB n) := Lib.hid (by rw [← H.out]; simp [h0])
    go_enter Tryd.func74, Tryd.ntmps74
    go_wp2
    go_ret
    exact ⟨ret_b H1.out, rfl⟩
  · have H1 : Hid (false = mayB n) := Lib.hid (by rw [← H.out]; simp [h0])
    go_enter Tryd.func74, Tryd.ntmps74
    go_wp2
    go_ret
    exact ⟨ret_b H1.out, rfl⟩
theorem may_yes (n : Int) (w : World) (h : 0 ≤ n ∧ n < 64) : Calls Tryd.prog 74 #[.int .i64 n] w fun e w' => e = .returned (.bool true) ∧ w = w' := by
  have := rmayn_any n w
  rwa [show mayB n = true from by unfold mayB; simp [h]] at this
theorem may_no (n : Int) (w : World) (h : ¬ (0 ≤ n ∧ n < 64)) : Calls Tryd.prog 74 #[.int .i64 n] w fun e w' => e = .returned (.bool false) ∧ w = w' := by
  have := rmayn_any n w
  rwa [show mayB n = false from by unfold mayB; simp [h]] at this

/-- Does a stand to b, of any numbers? -/
def hasR (R : Mat) (a b : Int) : Bool := mayB a && hasB (mkS (R a.toNat)) b
set_option maxHeartbeats 400000 in
theorem rhasR_any (R : Mat) (a b : Int) (w : World) :
    Calls Tryd.prog 66 #[.agg (rowsA R), .int .i64 a, .int .i64 b] w fun e w' => e = .returned (.bool (hasR R a b)) ∧ Below w.heap.size w w' := by
  by_cases ha : 0 ≤ a ∧ a < 64
  · obtain ⟨i, rfl⟩ := Int.eq_ofNat_of_zero_le ha.1
    have hi : i < 64 := by omega
    have CM := Lib.hid (fun wx => may_yes (i : Int) wx ha)
    have HR : Hid (hasB (mkS (R i)) b = hasR R (i : Int) b) := Lib.hid (by unfold hasR mayB; simp [ha])
    have hc := (RelAt.new w 68 R).cell hi
    have hset := isSet_mkS (R i)
    clear ha
    generalize mkS (R i) = s at *
    go_enter Tryd.func66, Tryd.ntmps66
    go_wp2_with (first
      | (go_at_call 74; refine (CM.out _).mono ?_; rintro e w' ⟨rfl, rfl⟩)
      | (go_at_call 23; refine (has_any s b _ hset).mono ?_; rintro e w' ⟨rfl, rfl⟩))
    go_ret
    exact ⟨ret_b HR.out, (Below.refl _ _).alloc (Nat.le_refl _) _⟩
  · have CM := Lib.hid (fun wx => may_no a wx ha)
    have HR : Hid (false = hasR R a b) := Lib.hid (by unfold hasR mayB; simp [ha])
    clear ha
    go_enter Tryd.func66, Tryd.ntmps66
    go_wp2_with (go_at_call 74; refine (CM.out _).mono ?_; rintro e w' ⟨rfl, rfl⟩)
    go_ret
    exact ⟨ret_b HR.out, (Below.refl _ _).alloc (Nat.le_refl _) _⟩

theorem infoRel : (Tryd.prog.info? 68).map (·.size) = some 64 := by kernel_rfl
theorem infoRel' (R : Mat) : (Tryd.prog.info? 68).map (·.size) = some (rowsA R).size := by rw [rowsA_size]; exact infoRel
theorem rows_one (R : Mat) : (rowsA R).all (·.oneCell') = true := by
  rw [Array.all_eq_true_iff_forall_mem]
  intro v hv
  have : v ∈ (rowsA R).toList := by simpa using hv
  simp only [rowsA, List.toList_toArray, List.mem_map] at this
  obtain ⟨i, _, rfl⟩ := this
  rfl
theorem RelAt.setRow {w : World} {g : Nat} {t : TypeId} {R : Mat} (h : RelAt w g t R) (S : Mat) : RelAt (w.setRow g (rowsA S)) g t S := setRow_heap w g _ _ t _ h
/-- A whole relation read out of its block, and written into one. -/
theorem wpList_load_rel {ops : Array Oper} {rest : List Oper} {o : Oper} {a : Act} {w : World} {Q : Exit → Act → World → Prop} {g : Nat} {R : Mat} (h : RelAt w g 68 R) (hgd : o.guard = none) (x : Operand) (ho : o.op = .load 68 x)
    (hx : a.eval x = .pointer (some ⟨g, 0, none⟩)) (hn : wpList Tryd.prog ops Q rest (a.put o.dst (.agg (rowsA R))) w) : wpList Tryd.prog ops Q (o :: rest) a w :=
  wpList_load_row hgd 68 x ho g hx _ (rowsA R) _ _ h Tryd.underlying68 rfl (infoRel' _) hn
theorem wpList_store_rel {ops : Array Oper} {rest : List Oper} {o : Oper} {a : Act} {w : World} {Q : Exit → Act → World → Prop} {g : Nat} {S : Mat} (h : RelAt w g 68 S) (R : Mat) (hgd : o.guard = none) (x y : Operand) (ho : o.op = .store 68 x y)
    (hx : a.eval x = .pointer (some ⟨g, 0, none⟩)) (hy : a.eval y = .agg (rowsA R)) (hn : wpList Tryd.prog ops Q rest (a.put o.dst undef) (w.setRow g (rowsA R))) : wpList Tryd.prog ops Q (o :: rest) a w :=
  wpList_store_row hgd 68 x y ho g (rowsA R) hx hy _ _ h (infoRel' _) (by rw [rowsA_size, rowsA_size]) (rows_one _) hn
theorem results_rel {fn : Func} {p : Tmp} (h : fn.results = #[.cell p 68]) (tmps : Array Value) (w : World) (g : Nat) (R : Mat)
    (hp : tmps.getD p undef = .pointer (some ⟨g, 0, none⟩)) (hg : RelAt w g 68 R) : (results fn tmps).run Tryd.prog w = .ok (.agg (rowsA R)) w :=
  results_cell_row h tmps w g _ (rowsA R) _ _ hp hg Tryd.underlying68 rfl (infoRel' _)
def orR (R S : Mat) : Mat := fun i j => R i j || S i j
/-- The union, done for the rows below k. -/
def orTo (R S : Mat) (k : Nat) : Mat := fun i j => if i < k then R i j || S i j else R i j
theorem mkS_or (p q : Nat → Bool) : mkS p ||| mkS q = mkS fun j => p j || q j := by
  apply mkS_eq (isSet_or (isSet_mkS p) (isSet_mkS q))
  intro i hi
  rw [Nat.testBit_or, testBit_mkS, testBit_mkS]; simp [hi]
theorem orTo_step (R S : Mat) (k : Nat) : rowSet (orTo R S k) k (fun j => R k j || S k j) = orTo R S (k + 1) := by
  funext i j
  unfold rowSet orTo
  by_cases h : i = k
  · subst h; simp
  · rw [if_neg h]
    by_cases h2 : i < k
    · rw [if_pos h2, if_pos (by omega)]
    · rw [if_neg h2, if_neg (by omega)]
theorem orTo_at (R S : Mat) (k : Nat) : orTo R S k k = R k := by funext j; unfold orTo; rw [if_neg (by omega)]
theorem orTo_end (R S : Mat) : rowsA (orTo R S 64) = rowsA (orR R S) := rowsA_congr fun i j hi _ => by unfold orTo orR; rw [if_pos hi]
theorem u64_or (p q : Nat → Bool) : Go.bits .or .u64 ((mkS p : Nat) : Int) ((mkS q : Nat) : Int) = ((mkS (fun j => p j || q j) : Nat) : Int) := by
  rw [Go.bits_or_u64_nat _ _ (isSet_mkS p) (isSet_mkS q), mkS_or]
set_option maxHeartbeats 1000000 in
theorem union_any (R S : Mat) (w : World) :
    Calls Tryd.prog 65 #[.agg (rowsA R), .agg (rowsA S)] w fun e w' => e = .returned (.agg (rowsA (orR R S))) ∧ Below w.heap.size w w' := by
  go_enter Tryd.func65, Tryd.ntmps65
  go_wp2
  go_loopw [6] (fun i wr => ∃ k : Nat, k ≤ 64 ∧ i = .int .i64 k ∧ RelAt wr w.heap.size 68 (orTo R S k) ∧ RelAt wr (w.heap.size + 1) 68 S ∧ RelAt wr (w.heap.size + 2) 68 noR ∧ Below w.heap.size w wr)
    (fun i _ => 64 - (intOf i).toNat)
  case atStart =>
    have e0 : rowsA R = rowsA (orTo R S 0) := rowsA_congr fun i j _ _ => by unfold orTo; rw [if_neg (by omega)]
    refine ⟨0, by omega, rfl, ?_, ?_, ?_, ?_⟩
    · exact ((RelAt.made w _ (orTo R S 0) rfl e0).alloc _).alloc _
    · exact (RelAt.made _ _ S (by simp) rfl).alloc _
    · exact RelAt.made _ _ noR (by simp) (by rw [rowsA_none]; rfl)
    · exact (((Below.refl w.heap.size w).alloc (Nat.le_refl _) _).alloc (by simp) _).alloc (by simp; omega) _
  case round =>
    obtain ⟨k, hk, rfl, h0, h1, h2, hb⟩ := hrel
    by_cases hlt : k < 64
    · have hc0 := h0.cell hlt
      have hc1 := h1.cell hlt
      rw [orTo_at] at hc0
      have hf := h0.free k
      have HO := u64_or (R k) (S k)
      have HS := Lib.hid (orTo_step R S k)
      have HN := Lib.hid (h0.store k _ (fun j => R k j || S k j) rfl)
      have H1 := Lib.hid (h1.other (k := ⟨w.heap.size, k, none⟩) (by simp) (.int .u64 ((mkS (fun j => R k j || S k j) : Nat) : Int)))
      have H2 := Lib.hid (h2.other (k := ⟨w.heap.size, k, none⟩) (by simp) (.int .u64 ((mkS (fun j => R k j || S k j) : Nat) : Int)))
      have HB := Lib.hid (hb.setCell (p := ⟨w.heap.size, k, none⟩) (Nat.le_refl _) (.int .u64 ((mkS (fun j => R k j || S k j) : Nat) : Int)))
      clear h0 h1 h2 hb
      generalize mkS (fun j => R k j || S k j) = z at *
      generalize mkS (R k) = x at *
      generalize mkS (S k) = y at *
      go_wp2
      go_still_tail 8, (by kernel_rfl)
      go_wp2
      go_roundw
      case rel => exact ⟨k + 1, by omega, by go_num, by rw [← HS.out]; exact HN.out, H1.out, H2.out, HB.out.drew⟩
      case measure => simp [intOf]; omega
    · have hk64 : k = 64 := by omega
      subst hk64
      go_wp2_with (first
        | (with_reducible refine wpList_load_rel h0 rfl _ rfl rfl ?_)
        | (with_reducible refine wpList_store_rel h2 (orTo R S 64) rfl _ _ rfl rfl rfl ?_))
      have h3 := h2.setRow (orTo R S 64)
      rw [orTo_end] at h3
      exact bodyPost_ret (results_rel rfl _ _ _ _ rfl h3) rfl ⟨rfl, below_setRow hb (by omega) _⟩
end Go.Proofs.YtecpeegbfeijaaaDoor

namespace Go.Proofs.YtecpeegbfeijaaaDoor
set_option maxRecDepth 100000

/-- One comes from i to j, in one step or more, by numbers below 64. -/
inductive Path (R : Mat) : Nat → Nat → Prop
  | one {i j : Nat} : R i j = true → Path R i j
  | more {i m j : Nat} : R i m = true → m < 64 → Path R m j → Path R i j
theorem Path.trans {R : Mat} {i m j : Nat} (h : Path R i m) (hm : m < 64) (k : Path R m j) : Path R i j := by
  induction h with
  | one h => exact .more h hm k
  | more h h2 _ ih => exact .more h h2 (ih hm k)
theorem Path.mono {R S : Mat} {i j : Nat} (h : Path R i j) (hRS : ∀ a b, R a b = true → S a b = true) : Path S i j := by
  induction h with
  | one h => exact .one (hRS _ _ h)
  | more h h2 _ ih => exact .more (hRS _ _ h) h2 ih
/-- One pass: what comes by m is added on. -/
def wPass (R : Mat) (m : Nat) : Mat := fun i j => R i j || (R i m && R m j)
def cloTo (R : Mat) : Nat → Mat
  | 0 => R
  | m + 1 => wPass (cloTo R m) m
def clo (R : Mat) : Mat := cloTo R 64
theorem cloTo_path (R : Mat) : ∀ (k : Nat), k ≤ 64 → ∀ i j, cloTo R k i j = true → Path R i j
  | 0, _, i, j, h => .one h
  | k + 1, hk, i, j, h => by
    have h' : (cloTo R k i j || (cloTo R k i k && cloTo R k k j)) = true := h
    rw [Bool.or_eq_true, Bool.and_eq_true] at h'
    rcases h' with h' | ⟨h1, h2⟩
    · exact cloTo_path R k (by omega) i j h'
    · exact (cloTo_path R k (by omega) i k h1).trans (by omega) (cloTo_path R k (by omega) k j h2)
theorem cloTo_sub (R : Mat) (i j : Nat) (h : R i j = true) : ∀ k, cloTo R k i j = true
  | 0 => h
  | k + 1 => by
    show (cloTo R k i j || _) = true
    rw [cloTo_sub R i j h k]; rfl
theorem cloTo_trans (R : Mat) : ∀ (k : Nat) (i m j : Nat), m < k → cloTo R k i m = true → cloTo R k m j = true → cloTo R k i j = true
  | 0, _, _, _, h, _, _ => by omega
  | k + 1, i, m, j, hm, h1, h2 => by
    have ih := cloTo_trans R k
    have e1 : (cloTo R k i m || (cloTo R k i k && cloTo R k k m)) = true := h1
    have e2 : (cloTo R k m j || (cloTo R k m k && cloTo R k k j)) = true := h2
    show (cloTo R k i j || (cloTo R k i k && cloTo R k k j)) = true
    generalize cloTo R k = A at *
    rw [Bool.or_eq_true, Bool.and_eq_true] at *
    by_cases hmk : m = k
    · subst hmk
      exact .inr ⟨e1.elim id (·.1), e2.elim id (·.2)⟩
    · have hlt : m < k := by omega
      rcases e1 with a | ⟨a1, a2⟩ <;> rcases e2 with b | ⟨b1, b2⟩
      · exact .inl (ih i m j hlt a b)
      · exact .inr ⟨ih i m k hlt a b1, b2⟩
      · exact .inr ⟨a1, ih k m j hlt a2 b⟩
      · exact .inr ⟨a1, b2⟩
theorem clo_iff (R : Mat) (i j : Nat) : clo R i j = true ↔ Path R i j := by
  constructor
  · exact cloTo_path R 64 (Nat.le_refl _) i j
  · intro h
    induction h with
    | one h => exact cloTo_sub R _ _ h 64
    | more h hm _ ih => exact cloTo_trans R 64 _ _ _ hm (cloTo_sub R _ _ h 64) ih
end Go.Proofs.YtecpeegbfeijaaaDoor

namespace Go.Proofs.YtecpeegbfeijaaaDoor
set_option maxRecDepth 100000
open Go.RowKit

theorem hasB_mkS (p : Nat → Bool) (n : Nat) (hn : n < 64) : hasB (mkS p) (n : Int) = p n := by
  unfold hasB
  have h : 0 ≤ (n : Int) ∧ (n : Int) < 64 := by omega
  rw [Int.toNat_natCast, testBit_mkS]
  simp [h, hn]
end Go.Proofs.YtecpeegbfeijaaaDoor

namespace Go.Proofs.YtecpeegbfeijaaaDoor
set_option maxRecDepth 100000
open Go.RowKit

theorem withS_mkS (q : Nat → Bool) (a : Nat) (ha : a < 64) : withS (mkS q) (a : Int) = mkS fun j => q j || decide (j = a) := by
  apply mkS_eq (isSet_withS (isSet_mkS q))
  intro i hi
  rw [testBit_withS, testBit_mkS]
  have h : 0 ≤ (a : Int) ∧ (a : Int) < 64 := by omega
  simp only [hi, h, decide_true, Bool.true_and, and_self, Int.toNat_natCast]
  congr 1
  rw [Bool.eq_iff_iff]; simp; exact ⟨fun h => h.symm, fun h => h.symm⟩
end Go.Proofs.YtecpeegbfeijaaaDoor

namespace Go.Proofs.YtecpeegbfeijaaaDoor
set_option maxRecDepth 100000
open Go.RowKit

def thenR (R S : Mat) : Mat := fun i j => (List.range 64).any fun m => R i m && S m j
end Go.Proofs.YtecpeegbfeijaaaDoor

namespace Go.Proofs.YtecpeegbfeijaaaDoor
set_option maxRecDepth 100000
open Go.RowKit

/-- With one pair more, if both may be. -/
def addM (R : Mat) (a b : Int) : Mat := if mayB a = true ∧ mayB b = true then rowSet R a.toNat (fun j => R a.toNat j || decide (j = b.toNat)) else R
set_option maxHeartbeats 1000000 in
theorem add_yes (R : Mat) (g : Nat) (a b : Nat) (w : World) (h : RelAt w g 68 R) (ha : a < 64) (hb : b < 64) :
    Calls Tryd.prog 63 #[.pointer (some ⟨g, 0, none⟩), .int .i64 (a : Int), .int .i64 (b : Int)] w fun e w' => e = .returned (.bool true) ∧ RelAt w' g 68 (rowSet R a (fun j => R a j || decide (j = b))) ∧ w.grownBy w' (some g) := by
  have hma : mayB (a : Int) = true := by unfold mayB; simp; omega
  have hmb : mayB (b : Int) = true := by unfold mayB; simp; omega
  have hc := h.cell ha
  have hf := h.free a
  have hM := Lib.hid (withS_mkS (R a) b hb)
  have hset := isSet_mkS (R a)
  have hlt := h.lt
  have HN := Lib.hid (h.store a _ (fun j => R a j || decide (j = b)) hM.out)
  have CW : ∀ wx, Calls Tryd.prog 30 #[.int .u64 ((mkS (R a) : Nat) : Int), .int .i64 (b : Int)] wx fun e w' => e = .returned (.int .u64 ((withS (mkS (R a)) (b : Int) : Nat) : Int)) ∧ w' = wx :=
    fun wx => (with_any _ _ wx hset).mono fun _ _ h => ⟨h.1, h.2.symm⟩
  have HG : Hid (w.grownBy (w.setCell ⟨g, a, none⟩ (.int .u64 ((withS (mkS (R a)) (b : Int) : Nat) : Int))) (some g)) :=
    Lib.hid ⟨rfl, rfl, rfl, by simp, fun k _ hk => Below.heap_setCell w ⟨g, a, none⟩ _ k (fun e => hk (by rw [e]))⟩
  have CWH := Lib.hid CW
  clear CW h
  generalize mkS (R a) = x at *
  generalize withS x (b : Int) = z at *
  have hai : (a : Int) < 64 := by omega
  go_enter Tryd.func63, Tryd.ntmps63
  go_wp2_with (go_at_call 74; refine (rmayn_any _ _).mono ?_; rintro e w' ⟨rfl, rfl⟩)
  go_still_tail 11, (by kernel_rfl)
  still_call (CWH.out _)
  repeat still_step
  refine wpStill_nil ?_
  go_wp2
  go_ret
  exact ⟨rfl, HN.out, ⟨HG.out.os, HG.out.tape, HG.out.output, HG.out.size, HG.out.block⟩⟩
theorem add_no (R : Mat) (g : Nat) (a b : Int) (w : World) (h : RelAt w g 68 R) (hab : ¬ (mayB a = true ∧ mayB b = true)) :
    Calls Tryd.prog 63 #[.pointer (some ⟨g, 0, none⟩), .int .i64 a, .int .i64 b] w fun e w' => e = .returned (.bool false) ∧ RelAt w' g 68 R ∧ w.grownBy w' (some g) := by
  have HR := Lib.hid h
  clear h
  cases ha : mayB a
  · clear hab
    go_enter Tryd.func63, Tryd.ntmps63
    go_wp2_with (go_at_call 74; refine (rmayn_any _ _).mono ?_; rintro e w' ⟨rfl, rfl⟩)
    go_ret
    exact ⟨rfl, HR.out, World.grownBy.refl _ _⟩
  · have hb : mayB b = false := by cases hb : mayB b <;> simp_all
    clear hab
    go_enter Tryd.func63, Tryd.ntmps63
    go_wp2_with (go_at_call 74; refine (rmayn_any _ _).mono ?_; rintro e w' ⟨rfl, rfl⟩)
    go_ret
    exact ⟨rfl, HR.out, World.grownBy.refl _ _⟩
theorem mayB_iff (n : Int) : mayB n = true ↔ 0 ≤ n ∧ n < 64 := by unfold mayB; simp
theorem add_any (R : Mat) (g : Nat) (a b : Int) (w : World) (h : RelAt w g 68 R) :
    Calls Tryd.prog 63 #[.pointer (some ⟨g, 0, none⟩), .int .i64 a, .int .i64 b] w fun e w' => e = .returned (.bool (mayB a && mayB b)) ∧ RelAt w' g 68 (addM R a b) ∧ w.grownBy w' (some g) := by
  by_cases hab : mayB a = true ∧ mayB b = true
  · have h1 := (mayB_iff a).1 hab.1
    have h2 := (mayB_iff b).1 hab.2
    have e1 : (mayB a && mayB b) = true := by rw [hab.1, hab.2]; rfl
    have e2 : addM R a b = rowSet R a.toNat (fun j => R a.toNat j || decide (j = b.toNat)) := if_pos hab
    rw [e1, e2]
    obtain ⟨i, rfl⟩ := Int.eq_ofNat_of_zero_le h1.1
    obtain ⟨j, rfl⟩ := Int.eq_ofNat_of_zero_le h2.1
    simp only [Int.toNat_natCast]
    exact add_yes R g i j w h (by omega) (by omega)
  · have e1 : (mayB a && mayB b) = false := by cases ha : mayB a <;> cases hb : mayB b <;> simp_all
    have e2 : addM R a b = R := if_neg hab
    rw [e1, e2]
    exact add_no R g a b w h hab
end Go.Proofs.YtecpeegbfeijaaaDoor

namespace Go.Proofs.YtecpeegbfeijaaaDoor
set_option maxRecDepth 100000
open Go.RowKit

abbrev Pr := Int × Int
def prV (l : List Pr) : List Value := l.flatMap fun p => [.int .i64 p.1, .int .i64 p.2]
theorem prV_len (l : List Pr) : (prV l).length = l.length * 2 := by
  induction l with
  | nil => rfl
  | cons a l ih => unfold prV at *; rw [List.flatMap_cons, List.length_append, ih, List.length_cons]; simp; omega
theorem prV_at : ∀ (l : List Pr) (k : Nat) (hk : k < l.length), (prV l)[2 * k]? = some (.int .i64 l[k].1) ∧ (prV l)[2 * k + 1]? = some (.int .i64 l[k].2)
  | [], k, hk => by simp at hk
  | a :: l, 0, _ => by unfold prV; simp
  | a :: l, k + 1, hk => by
    have := prV_at l k (by simpa using hk)
    unfold prV at *
    rw [List.flatMap_cons, show 2 * (k + 1) = 2 * k + 2 by omega]
    simpa using this
/-- The slice v holds these pairs. -/
def Prs (w : World) (v : Value) (l : List Pr) : Prop := Row w v l.length 2 (prV l)
theorem Prs.below {w w' : World} {v : Value} {l : List Pr} (h : Prs w v l) (hb : Below w.heap.size w w') : Prs w' v l := Row.below h hb
theorem Prs.of_owns {w : World} {base : Nat} {e : TypeId} {v : Value} {n : Nat} {l : List Pr} (h : w.ownsRow base e 2 v n (prV l)) : Prs w v l := by
  have hr := Row.of_owns h
  have hn : n = l.length := by have := h.1; rw [prV_len] at this; omega
  subst hn; exact hr
theorem Prs.form {w : World} {v : Value} {l : List Pr} (h : Prs w v l) : ∃ ao cap, v = .slice ao l.length cap ∧ l.length ≤ 9223372036854775807 := by
  obtain ⟨_, ao, cap, rfl, hm, _, _⟩ := h
  exact ⟨ao, cap, rfl, Nat.le_trans hm.1 hm.2⟩
theorem Prs.at {w : World} {ao : Option Addr} {n cap : Nat} {l : List Pr} (h : Prs w (.slice ao n cap) l) {k : Nat} (hk : k < l.length) :
    ∃ b off, ao = some ⟨b, off, none⟩ ∧ w.cell? ⟨b, off + k * 2, none⟩ = some (.int .i64 l[k].1) ∧ w.cell? ⟨b, off + k * 2 + 1, none⟩ = some (.int .i64 l[k].2) := by
  obtain ⟨_, ao', cap', he, hm, _, hc⟩ := h
  obtain ⟨rfl, _, _⟩ : ao = ao' ∧ n = l.length ∧ cap = cap' := by simpa using he
  obtain ⟨b, off, rfl, hcell⟩ := hc (by omega)
  obtain ⟨h1, h2⟩ := prV_at l k hk
  refine ⟨b, off, rfl, ?_, ?_⟩
  · rw [Nat.mul_comm k 2, hcell (2 * k) (by omega), h1]
  · rw [Nat.mul_comm k 2, Nat.add_assoc, hcell (2 * k + 1) (by omega), h2]

def hasP (l : List Pr) (a b : Int) : Bool := l.any fun p => p.1 == a && p.2 == b
theorem hasP_iff {l : List Pr} {a b : Int} : hasP l a b = true ↔ (a, b) ∈ l := by
  unfold hasP
  rw [List.any_eq_true]
  constructor
  · rintro ⟨⟨x, y⟩, h, e⟩
    simp at e
    obtain ⟨rfl, rfl⟩ := e
    exact h
  · intro h; exact ⟨(a, b), h, by simp⟩
def putP (l : List Pr) (a b : Int) : List Pr := if hasP l a b then l else l ++ [(a, b)]
theorem mem_putP {l : List Pr} {a b : Int} {p : Pr} : p ∈ putP l a b ↔ p ∈ l ∨ p = (a, b) := by
  unfold putP
  split
  · rename_i h
    rw [hasP_iff] at h
    exact ⟨.inl, fun h' => h'.elim id (fun e => e ▸ h)⟩
  · simp
theorem putP_nodup {l : List Pr} {a b : Int} (h : l.Nodup) : (putP l a b).Nodup := by
  unfold putP
  split
  · exact h
  · rename_i hn
    rw [List.nodup_append]
    refine ⟨h, by simp, ?_⟩
    intro x hx y hy
    simp at hy
    subst hy
    rintro rfl
    exact hn (hasP_iff.2 hx)
/-- Pairs put in, one by one. -/
def putAll (o l : List Pr) : List Pr := l.foldl (fun o p => putP o p.1 p.2) o
theorem mem_putAll {p : Pr} : ∀ (l o : List Pr), p ∈ putAll o l ↔ p ∈ o ∨ p ∈ l
  | [], o => by simp [putAll]
  | q :: l, o => by
    have := mem_putAll (p := p) l (putP o q.1 q.2)
    unfold putAll at *
    rw [List.foldl_cons, this, mem_putP, List.mem_cons, or_assoc]
theorem putAll_nodup : ∀ (l : List Pr) {o : List Pr}, o.Nodup → (putAll o l).Nodup
  | [], _, h => h
  | _ :: l, _, h => putAll_nodup l (putP_nodup h)
/-- One pair, and then any of some, put in. -/
def thenOne (o : List Pr) (p : Pr) (m : List Pr) : List Pr := m.foldl (fun o q => if p.2 == q.1 then putP o p.1 q.2 else o) o
def thenP (l m : List Pr) : List Pr := l.foldl (fun o p => thenOne o p m) []
theorem mem_thenOne {x : Pr} {p : Pr} : ∀ (m o : List Pr), x ∈ thenOne o p m ↔ x ∈ o ∨ ∃ q ∈ m, p.2 = q.1 ∧ x = (p.1, q.2)
  | [], o => by simp [thenOne]
  | q :: m, o => by
    have h := mem_thenOne (x := x) (p := p) m (if p.2 == q.1 then putP o p.1 q.2 else o)
    have e : thenOne o p (q :: m) = thenOne (if p.2 == q.1 then putP o p.1 q.2 else o) p m := rfl
    rw [e, h]
    by_cases hpq : p.2 = q.1
    · have : (p.2 == q.1) = true := by simpa using hpq
      rw [if_pos this, mem_putP, or_assoc]
      apply or_congr Iff.rfl
      constructor
      · rintro (rfl | ⟨r, hr, h1, h2⟩)
        · exact ⟨q, List.mem_cons_self, hpq, rfl⟩
        · exact ⟨r, List.mem_cons_of_mem _ hr, h1, h2⟩
      · rintro ⟨r, hr, h1, h2⟩
        rcases List.mem_cons.1 hr with rfl | hr
        · exact .inl h2
        · exact .inr ⟨r, hr, h1, h2⟩
    · have : ¬ (p.2 == q.1) = true := by simpa using hpq
      rw [if_neg this]
      apply or_congr Iff.rfl
      constructor
      · rintro ⟨r, hr, h1, h2⟩; exact ⟨r, List.mem_cons_of_mem _ hr, h1, h2⟩
      · rintro ⟨r, hr, h1, h2⟩
        rcases List.mem_cons.1 hr with rfl | hr
        · exact absurd h1 hpq
        · exact ⟨r, hr, h1, h2⟩
theorem mem_thenAll {x : Pr} {m : List Pr} : ∀ (l o : List Pr), x ∈ l.foldl (fun o p => thenOne o p m) o ↔ x ∈ o ∨ ∃ p ∈ l, ∃ q ∈ m, p.2 = q.1 ∧ x = (p.1, q.2)
  | [], o => by simp
  | p :: l, o => by
    rw [List.foldl_cons, mem_thenAll l, mem_thenOne, or_assoc]
    apply or_congr Iff.rfl
    constructor
    · rintro (⟨q, hq, h⟩ | ⟨r, hr, q, hq, h⟩)
      · exact ⟨p, List.mem_cons_self, q, hq, h⟩
      · exact ⟨r, List.mem_cons_of_mem _ hr, q, hq, h⟩
    · rintro ⟨r, hr, q, hq, h⟩
      rcases List.mem_cons.1 hr with rfl | hr
      · exact .inl ⟨q, hq, h⟩
      · exact .inr ⟨r, hr, q, hq, h⟩
theorem mem_thenP {x : Pr} {l m : List Pr} : x ∈ thenP l m ↔ ∃ p ∈ l, ∃ q ∈ m, p.2 = q.1 ∧ x = (p.1, q.2) := by
  unfold thenP; rw [mem_thenAll]; simp
/-- A list without repeats that lies in another one is no longer. -/
theorem nodup_le {α : Type} [BEq α] [LawfulBEq α] : ∀ (l m : List α), l.Nodup → (∀ x ∈ l, x ∈ m) → l.length ≤ m.length
  | [], _, _, _ => by simp
  | a :: l, m, hn, hs => by
    rw [List.nodup_cons] at hn
    have ha := hs a List.mem_cons_self
    have := nodup_le l (m.erase a) hn.2 (fun x hx => by
      have hxa : x ≠ a := by rintro rfl; exact hn.1 hx
      exact (List.mem_erase_of_ne hxa).2 (hs x (List.mem_cons_of_mem _ hx)))
    rw [List.length_erase_of_mem ha] at this
    have hpos : 0 < m.length := List.length_pos_of_mem ha
    rw [List.length_cons]; omega
/-- One comes from a to b, by the pairs of a list, in one step or more. -/
inductive PathP (l : List Pr) : Int → Int → Prop
  | one {a b : Int} : (a, b) ∈ l → PathP l a b
  | more {a b c : Int} : PathP l a b → (b, c) ∈ l → PathP l a c
theorem PathP.ends {l : List Pr} {a b : Int} (h : PathP l a b) : (∃ y, (a, y) ∈ l) ∧ ∃ x, (x, b) ∈ l := by
  induction h with
  | one h => exact ⟨⟨_, h⟩, ⟨_, h⟩⟩
  | more _ h ih => exact ⟨ih.1, ⟨_, h⟩⟩
/-- One more round of the reference's closing. -/
def cloNext (o l : List Pr) : List Pr := putAll o (thenP o l)
/-- What holds of the reference's list from its first round on. -/
structure CloInv (l o : List Pr) : Prop where
  nodup : o.Nodup
  has : ∀ p ∈ l, p ∈ o
  path : ∀ a b, (a, b) ∈ o → PathP l a b
theorem CloInv.next {l o : List Pr} (h : CloInv l o) : CloInv l (cloNext o l) where
  nodup := putAll_nodup _ h.nodup
  has := fun p hp => (mem_putAll _ _).2 (.inl (h.has p hp))
  path := fun a b hab => by
    rcases (mem_putAll _ _).1 hab with h' | h'
    · exact h.path a b h'
    · obtain ⟨⟨x, y⟩, hp, ⟨u, v⟩, hq, h1, h2⟩ := mem_thenP.1 h'
      simp at h1 h2
      obtain ⟨rfl, rfl⟩ := h2
      subst h1
      exact .more (h.path _ _ hp) hq
theorem CloInv.len {l o : List Pr} (h : CloInv l o) : o.length ≤ l.length * l.length := by
  have := nodup_le o (l.flatMap fun p => l.map fun q => (p.1, q.2)) h.nodup (fun x hx => by
    obtain ⟨⟨y, hy⟩, ⟨z, hz⟩⟩ := (h.path x.1 x.2 hx).ends
    exact List.mem_flatMap.2 ⟨_, hy, List.mem_map.2 ⟨_, hz, rfl⟩⟩)
  have e : (l.flatMap fun p => l.map fun q => (p.1, q.2)).length = l.length * l.length := by
    rw [List.length_flatMap]
    have : (l.map fun p => (l.map fun q => ((p.1, q.2) : Pr)).length) = l.map fun _ => l.length := by simp
    rw [this, List.map_const']
    have hr : ∀ n k : Nat, (List.replicate n k).sum = n * k := by
      intro n k; induction n with
      | zero => simp
      | succ n ih => rw [List.replicate_succ, List.sum_cons, ih, Nat.succ_mul]; omega
    exact hr _ _
  rw [e] at this; exact this
theorem CloInv.done {l o : List Pr} (h : CloInv l o) (hd : (cloNext o l).length = o.length) (a b : Int) : (a, b) ∈ o ↔ PathP l a b := by
  constructor
  · exact h.path a b
  · intro hp
    have hsub : ∀ x ∈ cloNext o l, x ∈ o := by
      intro x hx
      by_cases hxo : x ∈ o
      · exact hxo
      · have h2 := nodup_le (x :: o) (cloNext o l) (List.nodup_cons.2 ⟨hxo, h.nodup⟩) (fun y hy => by
          rcases List.mem_cons.1 hy with rfl | hy
          · exact hx
          · exact (mem_putAll _ _).2 (.inl hy))
        rw [List.length_cons] at h2; omega
    induction hp with
    | one h' => exact h.has _ h'
    | more _ h' ih => exact hsub _ ((mem_putAll _ _).2 (.inr (mem_thenP.2 ⟨_, ih, _, h', rfl, rfl⟩)))
end Go.Proofs.YtecpeegbfeijaaaDoor

namespace Go.Proofs.YtecpeegbfeijaaaDoor
set_option maxRecDepth 100000
open Go.RowKit

/-- Pairs are no sets: a store into a relation's block leaves them. -/
theorem Prs.grown {w w' : World} {v : Value} {l : List Pr} {g : Nat} {t : TypeId} {R : Mat} (h : Prs w v l) (hr : RelAt w g t R) (hg : w.grownBy w' (some g)) : Prs w' v l := by
  obtain ⟨hl, ao, cap, rfl, hm, hno, hc⟩ := h
  refine ⟨hl, ao, cap, rfl, hm, hno, fun hn => ?_⟩
  obtain ⟨b, off, rfl, hcell⟩ := hc hn
  refine ⟨b, off, rfl, fun i hi => ?_⟩
  have h1 := hcell i hi
  have hi' : i < (prV l).length := by rw [prV_len]; omega
  rw [List.getElem?_eq_getElem hi'] at h1 ⊢
  have hb : b ≠ g := by
    rintro rfl
    rw [cell_of_row w b _ _ _ _ hr] at h1
    have hmem : (prV l)[i] ∈ prV l := List.getElem_mem hi'
    unfold prV at hmem
    obtain ⟨p, _, hp⟩ := List.mem_flatMap.1 hmem
    by_cases ho : off + i < 64
    · rw [rowsA_at R ho] at h1
      have := Option.some.inj h1
      unfold prV at this
      rw [← this] at hp
      simp at hp
    · rw [Array.getElem?_eq_none (by rw [rowsA_size]; omega)] at h1
      cases h1
  exact hg.cell h1 (by simpa using hb)
end Go.Proofs.YtecpeegbfeijaaaDoor

namespace Go.Proofs.YtecpeegbfeijaaaDoor
set_option maxRecDepth 100000
open Go.RowKit

/-- Does nothing of a set follow on a number? -/
def emp (R : Mat) (s i : Nat) : Bool := (mkS (R i) &&& s) == 0
theorem emp_no {R : Mat} {s i : Nat} (hs : IsSet s) (h : emp R s i = false) : ∃ j, j ∈ lst s ∧ R i j = true := by
  unfold emp at h
  rw [beq_eq_false_iff_ne] at h
  have hset : IsSet (mkS (R i) &&& s) := isSet_and (isSet_mkS _)
  have hne : lst (mkS (R i) &&& s) ≠ [] := fun e => h (lst_nil hset e)
  have hm := mem_lst.1 (fst_mem hne)
  rw [Nat.testBit_and, testBit_mkS, Bool.and_eq_true, Bool.and_eq_true] at hm
  exact ⟨_, (mem_lst' hs).2 hm.2.2, hm.2.1.2⟩
theorem emp_yes {R : Mat} {s i j : Nat} (hj : j ∈ lst s) (h : R i j = true) : emp R s i = false := by
  unfold emp
  rw [beq_eq_false_iff_ne]
  intro e
  have hj' := mem_lst.1 hj
  have := congrArg (fun x => Nat.testBit x j) e
  simp [Nat.testBit_and, testBit_mkS, hj'.1, hj'.2, h] at this
/-- A set each of whose numbers stands to one of it. -/
def Suff (R : Mat) (F : Nat → Prop) : Prop := ∀ a, F a → a < 64 ∧ ∃ b, F b ∧ R a b = true
structure EndInv (R : Mat) (s : Nat) : Prop where
  set : IsSet s
  all : ∀ F, Suff R F → ∀ a, F a → a ∈ lst s
/-- One round done for the first k numbers. -/
def NxTo (R : Mat) (s : Nat) (k : Nat) (x : Nat) : Prop := IsSet x ∧ ∀ i, x.testBit i = (s.testBit i && !(((lst s).take k).contains i && emp R s i))
theorem nxTo_end {R : Mat} {s x : Nat} (hs : IsSet s) (h : NxTo R s (lst s).length x) (i : Nat) : x.testBit i = (s.testBit i && !emp R s i) := by
  rw [h.2 i, List.take_length]
  cases hb : s.testBit i
  · simp
  · have : (lst s).contains i = true := by rw [List.contains_iff_mem]; exact (mem_lst' hs).2 hb
    rw [this]; simp
theorem EndInv.next {R : Mat} {s x : Nat} (h : EndInv R s) (hx : NxTo R s (lst s).length x) : EndInv R x where
  set := hx.1
  all := fun F hF a ha => by
    obtain ⟨hlt, b, hb, hab⟩ := hF a ha
    rw [mem_lst' hx.1, nxTo_end h.set hx, (mem_lst' h.set).1 (h.all F hF a ha), emp_yes (h.all F hF b hb) hab]; rfl
theorem EndInv.done {R : Mat} {s : Nat} (h : EndInv R s) (hx : NxTo R s (lst s).length s) : ∀ a ∈ lst s, ∃ b ∈ lst s, R a b = true := by
  intro a ha
  have hb := (mem_lst' h.set).1 ha
  have := nxTo_end h.set hx a
  rw [hb] at this
  simp at this
  exact emp_no h.set this
end Go.Proofs.YtecpeegbfeijaaaDoor

namespace Go.Proofs.YtecpeegbfeijaaaDoor
set_option maxRecDepth 100000
open Go.RowKit

def lenV : Value → Nat
  | .slice _ n _ => n
  | _ => 0
theorem getD_at (l : List Nat) (i : Nat) (h : i < l.length) : l.getD i 0 = l[i] := by simp [List.getD, h]
/-- Each number of a list stands to the next one. -/
def Edges (R : Mat) (l : List Nat) : Prop := ∀ i, i + 1 < l.length → R (l.getD i 0) (l.getD (i + 1) 0) = true
/-- The row that one has gone, and where one stands. -/
structure GoOK (R : Mat) (E : Nat) (Q : List Nat) (n : Nat) : Prop where
  nodup : Q.Nodup
  mem : ∀ x ∈ Q, x ∈ lst E
  at_ : n ∈ lst E
  edges : Edges R (Q ++ [n])
theorem GoOK.len {R : Mat} {E : Nat} {Q : List Nat} {n : Nat} (h : GoOK R E Q n) : Q.length ≤ 64 := by
  have := nodup_le Q (lst E) h.nodup h.mem
  have := lstTo_len E 64
  have : (lst E).length ≤ 64 := this
  omega
theorem GoOK.next {R : Mat} {E : Nat} {Q : List Nat} {n m : Nat} (h : GoOK R E Q n) (hn : n ∉ Q) (hm : m ∈ lst E) (hR : R n m = true) : GoOK R E (Q ++ [n]) m where
  nodup := by
    rw [List.nodup_append]
    exact ⟨h.nodup, by simp, fun x hx y hy => by simp at hy; subst hy; rintro rfl; exact hn hx⟩
  mem := fun x hx => by
    rcases List.mem_append.1 hx with hx | hx
    · exact h.mem x hx
    · simp at hx; subst hx; exact h.at_
  at_ := hm
  edges := by
    intro i hi
    have hlen : (Q ++ [n] ++ [m]).length = Q.length + 2 := by simp
    by_cases hi2 : i + 1 < (Q ++ [n]).length
    · have := h.edges i hi2
      have e1 : (Q ++ [n] ++ [m]).getD i 0 = (Q ++ [n]).getD i 0 := by
        rw [getD_at _ _ (by omega), getD_at _ _ (by omega), List.getElem_append_left]
      have e2 : (Q ++ [n] ++ [m]).getD (i + 1) 0 = (Q ++ [n]).getD (i + 1) 0 := by
        rw [getD_at _ _ (by omega), getD_at _ _ (by omega), List.getElem_append_left]
      rw [e1, e2]; exact this
    · have hi3 : i = Q.length := by simp at hi2 hi; omega
      subst hi3
      have e1 : (Q ++ [n] ++ [m]).getD Q.length 0 = n := by simp [List.getD]
      have e2 : (Q ++ [n] ++ [m]).getD (Q.length + 1) 0 = m := by simp [List.getD]
      rw [e1, e2]; exact hR
theorem owns_lenV {w : World} {base : Nat} {e : TypeId} {size : Nat} {v : Value} {n : Nat} {cs : List Value} (h : w.ownsRow base e size v n cs) : lenV v = n := by
  rcases h.2 with ⟨rfl, rfl⟩ | ⟨g, cap, cur, rfl, _⟩ <;> rfl
theorem Ints.drop {w : World} {g n cap : Nat} {l : List Int} (h : Ints w (.slice (some ⟨g, 0, none⟩) n cap) l) (k : Nat) (hk : k < l.length) :
    Ints w (.slice (some ⟨g, k, none⟩) (l.length - k) (cap - k)) (l.drop k) := by
  have hlen : (l.drop k).length = l.length - k := by simp
  obtain ⟨_, ao, cap', he, hm, _, hc⟩ := h
  obtain ⟨rfl, rfl, rfl⟩ : some (⟨g, 0, none⟩ : Addr) = ao ∧ n = l.length ∧ cap = cap' := by simpa using he
  refine ⟨by simp, some ⟨g, k, none⟩, cap - k, by rw [hlen], by rw [hlen]; unfold maxLen at *; omega, (fun h => by cases h), fun _ => ⟨g, k, rfl, fun i hi => ?_⟩⟩
  obtain ⟨b, off, he2, hcell⟩ := hc (by omega)
  obtain ⟨rfl, rfl⟩ : g = b ∧ 0 = off := by simpa using he2
  have := hcell (k + i) (by omega)
  rw [Nat.zero_add] at this
  rw [this, List.map_drop, List.getElem?_drop]
end Go.Proofs.YtecpeegbfeijaaaDoor

namespace Go.Proofs.YtecpeegbfeijaaaDoor
set_option maxRecDepth 100000
open Go.RowKit

theorem wp_load_rel {o : Oper} {a : Act} {w : World} {K : Act → World → Prop} {Q : Exit → Act → World → Prop} {g : Nat} {R : Mat} (h : RelAt w g 68 R) (x : Operand) (ho : o.op = .load 68 x)
    (hx : a.eval x = .pointer (some ⟨g, 0, none⟩)) (hn : K (a.put o.dst (.agg (rowsA R))) w) : o.wp Tryd.prog a w K Q :=
  wp_load_row 68 x ho g hx _ (rowsA R) _ _ h Tryd.underlying68 rfl (infoRel' _) hn
end Go.Proofs.YtecpeegbfeijaaaDoor

namespace Go.Proofs.YtecpeegbfeijaaaDoor
set_option maxRecDepth 100000
open Go.RowKit

theorem inB_iff {s t : Nat} (hs : IsSet s) : inB s t = true ↔ ∀ i, i < 64 → s.testBit i = true → t.testBit i = true := by
  unfold inB
  rw [beq_iff_eq]
  constructor
  · intro h i _ hi
    have := congrArg (fun x => Nat.testBit x i) h
    simp [Nat.testBit_xor, Nat.testBit_and, hi] at this
    exact this
  · intro h
    apply set_ext (isSet_xor hs (isSet_and hs)) (by unfold IsSet; omega)
    intro i hi
    rw [Nat.testBit_xor, Nat.testBit_and]
    cases hb : s.testBit i
    · simp
    · simp [h i hi hb]
end Go.Proofs.YtecpeegbfeijaaaDoor

namespace Go.Proofs.YtecpeegbfeijaaaDoor
set_option maxRecDepth 100000
open Go.RowKit

theorem addM_iff (R : Mat) (a b : Int) (i j : Nat) (hi : i < 64) (hj : j < 64) : addM R a b i j = true ↔ R i j = true ∨ (a = (i : Int) ∧ b = (j : Int)) := by
  unfold addM
  split
  · rename_i h
    have h1 := (mayB_iff a).1 h.1
    have h2 := (mayB_iff b).1 h.2
    unfold rowSet
    by_cases e : i = a.toNat
    · rw [if_pos e, ← e, Bool.or_eq_true, decide_eq_true_iff]
      apply or_congr Iff.rfl
      constructor
      · intro h; omega
      · intro h; omega
    · rw [if_neg e]
      constructor
      · exact .inl
      · rintro (h | h)
        · exact h
        · omega
  · rename_i h
    constructor
    · exact .inl
    · rintro (h' | ⟨rfl, rfl⟩)
      · exact h'
      · exact absurd ⟨(mayB_iff _).2 (by omega), (mayB_iff _).2 (by omega)⟩ h
theorem PathP.cons {l : List Pr} {a b c : Int} (h : (a, b) ∈ l) (k : PathP l b c) : PathP l a c := by
  induction k with
  | one h' => exact .more (.one h) h'
  | more _ h' ih => exact .more ih h'
end Go.Proofs.YtecpeegbfeijaaaDoor
