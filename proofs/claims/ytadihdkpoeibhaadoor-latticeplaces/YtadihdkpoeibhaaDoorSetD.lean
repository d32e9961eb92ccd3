/- Walks: Of of both sides. Conditions: a slice's cells are known. -/
import Derived.Test.YtadihdkpoeibhaaDoorSetC
namespace Go.Proofs.YtadihdkpoeibhaaDoor
set_option maxRecDepth 100000
open Go.RowKit

def ofTo (l : List Int) : Nat → Nat
  | 0 => 0
  | m + 1 => 2 * ofTo l m + if hasL l (63 - (m : Int)) then 1 else 0
def ofL (l : List Int) : Nat := ofTo l 64
theorem ofTo_lt (l : List Int) : ∀ m, ofTo l m < 2 ^ m
  | 0 => by simp [ofTo]
  | m + 1 => by
    have := ofTo_lt l m
    simp only [ofTo, Nat.pow_succ]
    split <;> omega
theorem testBit_ofTo (l : List Int) : ∀ m i, m ≤ 64 → (ofTo l m).testBit i = (decide (i < m) && hasL l ((64 - m + i : Nat) : Int))
  | 0, i, _ => by simp [ofTo]
  | m + 1, i, hm => by
    have hb : (if hasL l (63 - (m : Int)) = true then 1 else 0) < 2 ^ 1 := by split <;> omega
    show (2 ^ 1 * ofTo l m + (if hasL l (63 - (m : Int)) = true then 1 else 0)).testBit i = _
    rw [Nat.testBit_two_pow_mul_add _ hb]
    by_cases h0 : i = 0
    · subst h0
      have e : ((64 - (m + 1) + 0 : Nat) : Int) = 63 - (m : Int) := by omega
      rw [e]
      cases hasL l (63 - (m : Int)) <;> simp
    · rw [if_neg (by omega), testBit_ofTo l m (i - 1) (by omega)]
      have e : 64 - m + (i - 1) = 64 - (m + 1) + i := by omega
      rw [e]
      congr 1
      simp; omega
theorem testBit_ofL (l : List Int) (i : Nat) : (ofL l).testBit i = (decide (i < 64) && hasL l (i : Int)) := by
  unfold ofL
  rw [testBit_ofTo l 64 i (by omega)]; simp
theorem isSet_ofL (l : List Int) : IsSet (ofL l) := by
  rw [isSet_iff]; exact ofTo_lt l 64
theorem ofTo_step (l : List Int) (m : Nat) (hm : m < 64) (h : hasL l (63 - (m : Int)) = true) : IntKind.u64.wrap (IntKind.u64.wrap (((ofTo l m : Nat) : Int) * 2) + 1) = ((ofTo l (m + 1) : Nat) : Int) := by
  have h1 := ofTo_lt l m
  have h2 : 2 ^ m ≤ 2 ^ 63 := Nat.pow_le_pow_right (by omega) (by omega)
  rw [IntKind.wrap_u64, IntKind.wrap_u64]
  simp only [ofTo, if_pos h]
  generalize ofTo l m = x at *
  generalize 2 ^ m = y at *
  omega
theorem ofTo_skip (l : List Int) (m : Nat) (hm : m < 64) (h : hasL l (63 - (m : Int)) = false) : IntKind.u64.wrap (((ofTo l m : Nat) : Int) * 2) = ((ofTo l (m + 1) : Nat) : Int) := by
  have h1 := ofTo_lt l m
  have h2 : 2 ^ m ≤ 2 ^ 63 := Nat.pow_le_pow_right (by omega) (by omega)
  rw [IntKind.wrap_u64]
  simp only [ofTo, h]
  generalize ofTo l m = x at *
  generalize 2 ^ m = y at *
  simp; omega
/-- The set of some numbers, one by one. -/
def setL (l : List Int) : Nat := l.foldl withS 0
theorem setL_snoc (l : List Int) (n : Int) : setL (l ++ [n]) = withS (setL l) n := by unfold setL; rw [List.foldl_append]; rfl
theorem testBit_foldl (l : List Int) : ∀ (s : Nat) (i : Nat), i < 64 → (l.foldl withS s).testBit i = (s.testBit i || hasL l (i : Int)) := by
  induction l with
  | nil => intro s i _; simp [hasL]
  | cons a l ih =>
    intro s i hi
    rw [List.foldl_cons, ih _ i hi, testBit_withS]
    unfold hasL
    rw [List.any_cons, Bool.or_assoc]
    congr 2
    rw [Bool.eq_iff_iff]; simp; omega
theorem isSet_foldl (l : List Int) : ∀ (s : Nat), IsSet s → IsSet (l.foldl withS s) := by
  induction l with
  | nil => intro s h; exact h
  | cons a l ih => intro s h; exact ih _ (isSet_withS h)
theorem isSet_setL (l : List Int) : IsSet (setL l) := isSet_foldl l 0 (by unfold IsSet; omega)
theorem setL_eq (l : List Int) : setL l = ofL l := by
  apply set_ext (isSet_setL l) (isSet_ofL l)
  intro i hi
  rw [testBit_ofL, setL, testBit_foldl l 0 i hi]; simp [hi]
theorem setL_step (l : List Int) (k : Nat) (hk : k < l.length) : withS (setL (l.take k)) l[k] = setL (l.take (k + 1)) := by
  rw [List.take_succ_eq_append_getElem hk, setL_snoc]
end Go.Proofs.YtadihdkpoeibhaaDoor
