/- The walk of a word's number. Condition: none but a text's own bound. -/
import Derived.Test.YtadihdkpoeibhaaDoorProg
import Derived.Test.YtadihdkpoeibhaaDoorTokM
import Derived.WalkKit
import Derived.WalkSpells
import Derived.WalkLawsBesides
import Derived.Lib.Hide
namespace Go.Proofs.YtadihdkpoeibhaaDoor
set_option maxRecDepth 100000
open Go.RowKit

theorem ret_nb {a a' : Int} {b b' : Bool} (h : a = a') (k : b = b') : Ending.returned (.tuple #[.int .i64 a, .bool b]) = .returned (.tuple #[.int .i64 a', .bool b']) := by rw [h, k]
theorem at_data {s : ByteArray} {k : Nat} (h : k < s.size) : k < s.data.toList.length ∧ ∀ h', s.data.toList[k]'h' = s[k] := by
  have e : s.data.toList.length = s.size := (Lib.size_eq s).symm
  exact ⟨by omega, fun _ => rfl⟩
theorem empty_of {s : ByteArray} (h : s.size = 0) : s.toList = [] ∧ s.toList.isEmpty = true := by
  have : s.data.toList = [] := List.eq_nil_of_length_eq_zero (by rw [← Lib.size_eq]; exact h)
  rw [ByteArray.toList_eq, this]; exact ⟨rfl, rfl⟩
theorem some_of {s : ByteArray} (h : 0 < s.size) : (¬ s.toList = []) ∧ s.toList.isEmpty = false := by
  have : s.data.toList ≠ [] := by
    intro e
    have := Lib.size_eq s
    rw [e, List.length_nil] at this; omega
  rw [ByteArray.toList_eq]
  exact ⟨this, by cases h : s.data.toList with | nil => exact absurd h this | cons a l => rfl⟩
theorem headD_at : ∀ (l : List UInt8) (h : 0 < l.length), l.headD 0 = l[0]
  | _ :: _, _ => rfl
theorem nought_of {s : ByteArray} (h : 1 < s.size) : nought s.data.toList = ((s[0].toNat : Int) == 48) := by
  have hl := Lib.size_eq s
  obtain ⟨h0, e⟩ := at_data (s := s) (k := 0) (by omega)
  unfold nought
  have : s.data.toList.headD 0 = s[0] := by
    rw [← e h0]; exact headD_at _ h0
  rw [this, ← hl]
  have h1 : decide (1 < s.size) = true := by simp; omega
  rw [h1, Bool.true_and, Bool.eq_iff_iff, beq_iff_eq, beq_iff_eq]
  constructor
  · intro h; rw [h]; rfl
  · intro h; exact UInt8.toNat_inj.1 (by simpa using (by omega : s[0].toNat = 48))
theorem nought_one {s : ByteArray} (h : s.size = 1) : nought s.data.toList = false := by
  unfold nought; rw [← Lib.size_eq s, h]; rfl
/-- The loop of Number, behind its first look. -/
def NumAt (l : List UInt8) (k : Nat) (v : Nat) : Prop := digTo l k ∧ v = valL (l.take k) ∧ v ≤ 2147483647
theorem NumAt.start (l : List UInt8) : NumAt l 0 0 := ⟨digTo_zero l, rfl, by omega⟩
theorem isD_iff (b : UInt8) : isD b = true ↔ 48 ≤ b.toNat ∧ b.toNat ≤ 57 := by unfold isD; simp
theorem NumAt.next {s : ByteArray} {k v : Nat} (h : NumAt s.data.toList k v) (hk : k < s.size) (h0 : 48 ≤ s[k].toNat) (h1 : s[k].toNat ≤ 57) (h2 : v * 10 + (s[k].toNat - 48) ≤ 2147483647) :
    NumAt s.data.toList (k + 1) (v * 10 + (s[k].toNat - 48)) := by
  obtain ⟨hl, e⟩ := at_data hk
  obtain ⟨hd, rfl, _⟩ := h
  exact ⟨digTo_succ hd hl (by rw [e hl]; exact (isD_iff _).2 ⟨h0, h1⟩), by rw [valL_take_succ _ _ hl, e hl], h2⟩
theorem NumAt.no {s : ByteArray} {k v : Nat} (h : NumAt s.data.toList k v) (hk : k < s.size) (hn : s[k].toNat < 48 ∨ 57 < s[k].toNat ∨ 2147483647 < v * 10 + (s[k].toNat - 48)) : okN s.data.toList = false := by
  obtain ⟨hl, e⟩ := at_data hk
  obtain ⟨hd, rfl, _⟩ := h
  have hx : isD s[k] = false → okN s.data.toList = false := fun h => okN_digit hl (by rw [e hl]; exact h)
  rcases hn with hn | hn | hn
  · exact hx (by cases h : isD s[k]; rfl; have := (isD_iff _).1 h; omega)
  · exact hx (by cases h : isD s[k]; rfl; have := (isD_iff _).1 h; omega)
  · exact okN_big (k := k + 1) (by rw [valL_take_succ _ _ hl, e hl]; exact hn)
theorem NumAt.yes {s : ByteArray} {k v : Nat} (h : NumAt s.data.toList k v) (hk : k = s.size) (h0 : 0 < s.size) (hn : nought s.data.toList = false) : okN s.data.toList = true ∧ numV s.data.toList = v := by
  have hl := Lib.size_eq s
  subst hk
  obtain ⟨hd, rfl, hv⟩ := h
  rw [hl] at hd hv h0 ⊢
  exact okN_yes h0 hn hd hv
theorem num_step (v c : Nat) (h : 48 ≤ c) : ((v : Int) * 10 + ((c : Int) - 48)) = ((v * 10 + (c - 48) : Nat) : Int) := by omega
end Go.Proofs.YtadihdkpoeibhaaDoor
