/- The walk of the statement on a set's parts: of any set and any number it answers true. Condition: First's library table lies where it is laid. -/
import Derived.Test.YtjfegknokombgaaDoorSetG
namespace Go.Proofs.YtjfegknokombgaaDoor
set_option maxRecDepth 100000
open Go.RowKit

theorem hasL_lst {s : Nat} (x : Int) : hasL ((lst s).map Int.ofNat) x = hasB s x := by
  rw [Bool.eq_iff_iff]
  unfold hasL hasB
  rw [List.any_eq_true]
  constructor
  · rintro ⟨y, hy, he⟩
    obtain ⟨i, hi, rfl⟩ := List.mem_map.1 hy
    obtain ⟨h1, h2⟩ := mem_lst.1 hi
    have : x = (i : Int) := (beq_iff_eq.1 he).symm
    subst this
    have h3 : 0 ≤ (i : Int) ∧ (i : Int) < 64 := by omega
    simp [h3, h2]
  · intro h
    simp only [Bool.and_eq_true, decide_eq_true_eq] at h
    obtain ⟨⟨h0, h1⟩, h2⟩ := h
    exact ⟨x, List.mem_map.2 ⟨x.toNat, mem_lst.2 ⟨by omega, h2⟩, by simp; omega⟩, by simp⟩
theorem ofL_cons (s : Nat) (n : Int) (hs : IsSet s) : ofL (n :: (lst s).map Int.ofNat) = withS s n := by
  apply set_ext (isSet_ofL _) (isSet_withS hs)
  intro i hi
  rw [testBit_ofL, testBit_withS]
  have e : hasL (n :: (lst s).map Int.ofNat) (i : Int) = ((n == (i : Int)) || hasL ((lst s).map Int.ofNat) (i : Int)) := by unfold hasL; rw [List.any_cons]
  rw [e, hasL_lst]
  unfold hasB
  have h3 : 0 ≤ (i : Int) ∧ (i : Int) < 64 := by omega
  simp only [hi, decide_true, Bool.true_and, h3, and_self, Int.toNat_natCast, Bool.or_comm]
  congr 1
  rw [Bool.eq_iff_iff]; simp; omega
theorem ofL_filter (s : Nat) (n : Int) (hs : IsSet s) : ofL (((lst s).map Int.ofNat).filter fun x => x != n) = woS s n := by
  apply set_ext (isSet_ofL _) (isSet_woS hs)
  intro i hi
  rw [testBit_ofL, testBit_woS]
  have e : hasL (((lst s).map Int.ofNat).filter fun x => x != n) (i : Int) = (((i : Int) != n) && hasL ((lst s).map Int.ofNat) (i : Int)) := by
    rw [Bool.eq_iff_iff]
    unfold hasL
    simp only [List.any_eq_true, List.mem_filter, Bool.and_eq_true, beq_iff_eq]
    constructor
    · rintro ⟨x, ⟨h1, h2⟩, rfl⟩; exact ⟨h2, _, h1, rfl⟩
    · rintro ⟨h2, x, h1, rfl⟩; exact ⟨_, ⟨h1, h2⟩, rfl⟩
  rw [e, hasL_lst]
  unfold hasB
  have h3 : 0 ≤ (i : Int) ∧ (i : Int) < 64 := by omega
  simp only [hi, decide_true, Bool.true_and, h3, and_self, Int.toNat_natCast]
  rw [Bool.and_comm]
  congr 1
  rw [Bool.eq_iff_iff]; simp; omega
/-- The first k numbers but one. -/
def butN (l : List Int) (n : Int) (k : Nat) : List Int := (l.take k).filter fun x => x != n
theorem butN_hit (l : List Int) (n : Int) (k : Nat) (hk : k < l.length) (h : l[k] ≠ n) : butN l n (k + 1) = butN l n k ++ [l[k]] := by
  unfold butN
  rw [List.take_succ_eq_append_getElem hk, List.filter_append]; simp [h]
theorem butN_miss (l : List Int) (n : Int) (k : Nat) (hk : k < l.length) (h : l[k] = n) : butN l n (k + 1) = butN l n k := by
  unfold butN
  rw [List.take_succ_eq_append_getElem hk, List.filter_append]; simp [h]
theorem butN_len (l : List Int) (n : Int) (k : Nat) : (butN l n k).length ≤ l.length :=
  Nat.le_trans (List.length_filter_le _ _) (by simp; omega)
theorem lstI_len (s : Nat) : ((lst s).map Int.ofNat).length ≤ 64 := by rw [List.length_map]; exact lstTo_len s 64

end Go.Proofs.YtjfegknokombgaaDoor
