/- The walks of the statements on lists of numbers, and there and back: they answer true. Condition: First's library table lies where it is laid; slices' cells are known. -/
import Derived.Test.YtjfegknokombgaaDoorSetH
namespace Go.Proofs.YtjfegknokombgaaDoor
set_option maxRecDepth 100000
open Go.RowKit

theorem ofL_lst (s : Nat) (hs : IsSet s) : setL ((lst s).map Int.ofNat) = s := by
  rw [setL_eq]
  apply set_ext (isSet_ofL _) hs
  intro i hi
  rw [testBit_ofL, hasL_lst]
  unfold hasB
  have h3 : 0 ≤ (i : Int) ∧ (i : Int) < 64 := by omega
  simp [hi, h3]
theorem has_fst {c : Nat} (hne : lst c ≠ []) : hasB c (fst c : Int) = true := by
  have h := mem_lst.1 (fst_mem hne)
  unfold hasB
  have h3 : 0 ≤ (fst c : Int) ∧ (fst c : Int) < 64 := by omega
  simp [h3, h.2]
theorem lst_wo_len {c : Nat} (hne : lst c ≠ []) : (lst (woS c (fst c : Int))).length + 1 = (lst c).length := by
  have := congrArg List.length (lst_cons hne)
  simp at this; omega
/-- Are the first k numbers, so far as they may be in a set, among others? -/
def wiTo (l m : List Int) (k : Nat) : Bool := (l.take k).all fun x => !decide (0 ≤ x ∧ x < 64) || hasL m x
theorem wiTo_succ (l m : List Int) (k : Nat) (hk : k < l.length) : wiTo l m (k + 1) = (wiTo l m k && (!decide (0 ≤ l[k] ∧ l[k] < 64) || hasL m l[k])) := by
  unfold wiTo
  rw [List.take_succ_eq_append_getElem hk, List.all_append]; simp
theorem inB_iff {s t : Nat} (hs : IsSet s) : inB s t = true ↔ ∀ i, i < 64 → s.testBit i = true → t.testBit i = true := by
  unfold inB
  rw [beq_iff_eq]
  constructor
  · intro h i _ hi
    have := congrArg (fun x => Nat.testBit x i) h
    simp [Nat.testBit_xor, Nat.testBit_and, hi] at this
    exact this
  · intro h
    apply set_ext (isSet_xor hs (isSet_and hs)) (by unfold IsSet; omega)
    intro i hi
    rw [Nat.testBit_xor, Nat.testBit_and]
    cases hb : s.testBit i
    · simp
    · simp [h i hi hb]
theorem hasL_iff {l : List Int} {n : Int} : hasL l n = true ↔ n ∈ l := by unfold hasL; simp
theorem within_eq (l m : List Int) : inB (setL l) (setL m) = wiTo l m l.length := by
  rw [Bool.eq_iff_iff, inB_iff (isSet_setL l)]
  unfold wiTo
  rw [List.take_length, List.all_eq_true]
  constructor
  · intro h x hx
    by_cases hr : 0 ≤ x ∧ x < 64
    · have hi := h x.toNat (by omega)
      rw [setL_eq, setL_eq, testBit_ofL, testBit_ofL] at hi
      have hlt : x.toNat < 64 := by omega
      have e : ((x.toNat : Nat) : Int) = x := by omega
      rw [e] at hi
      simp only [hlt, decide_true, Bool.true_and] at hi
      simp [hi (hasL_iff.2 hx)]
    · simp [hr]
  · intro h i hi hb
    rw [setL_eq, testBit_ofL] at hb ⊢
    simp only [hi, decide_true, Bool.true_and] at hb ⊢
    have := h (i : Int) (hasL_iff.1 hb)
    have hr : 0 ≤ (i : Int) ∧ (i : Int) < 64 := by omega
    simpa [hr] using this
theorem within_or (s t : Nat) (hs : IsSet s) : inB s (s ||| t) = true := by
  rw [inB_iff hs]
  intro i _ h
  rw [Nat.testBit_or, h]; rfl
theorem below_eq (n : Int) : ofL ((List.range (min 64 n.toNat)).map Int.ofNat) = belowS n := by
  have hb : IsSet (belowS n) := by
    unfold belowS IsSet
    split
    · omega
    · split
      · omega
      · have : 2 ^ n.toNat ≤ 2 ^ 63 := Nat.pow_le_pow_right (by omega) (by omega)
        omega
  apply set_ext (isSet_ofL _) hb
  intro i hi
  rw [testBit_ofL]
  have e : hasL ((List.range (min 64 n.toNat)).map Int.ofNat) (i : Int) = decide ((i : Int) < n) := by
    rw [Bool.eq_iff_iff, hasL_iff, decide_eq_true_iff]
    constructor
    · intro h
      obtain ⟨a, ha, he⟩ := List.mem_map.1 h
      have h1 := List.mem_range.1 ha
      have h2 : (a : Int) = (i : Int) := he
      omega
    · intro h
      exact List.mem_map.2 ⟨i, List.mem_range.2 (by omega), rfl⟩
  rw [e]
  unfold belowS
  by_cases h0 : n ≤ 0
  · rw [if_pos h0]
    have : ¬ (i : Int) < n := by omega
    simp [this]
  rw [if_neg h0]
  by_cases h1 : 64 ≤ n
  · rw [if_pos h1, show (18446744073709551615 : Nat) = 2 ^ 64 - 1 from by decide, Nat.testBit_two_pow_sub_one]
    have : (i : Int) < n := by omega
    simp [this]
  · rw [if_neg h1, Nat.testBit_two_pow_sub_one, Bool.eq_iff_iff]
    simp; omega
end Go.Proofs.YtjfegknokombgaaDoor
