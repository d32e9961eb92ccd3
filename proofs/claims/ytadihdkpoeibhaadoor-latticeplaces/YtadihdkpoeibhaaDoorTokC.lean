/- The walk of the reference's number of a word. Condition: none but a text's own bound. -/
import Derived.Test.YtadihdkpoeibhaaDoorTokB
namespace Go.Proofs.YtadihdkpoeibhaaDoor
set_option maxRecDepth 100000
open Go.RowKit

/-- The loop of the reference's Number. -/
def RNumAt (l : List UInt8) (k : Nat) (v : Nat) : Prop := digTo l k ∧ v = valL (l.take k) ∧ v < 10 ^ k
theorem RNumAt.start (l : List UInt8) : RNumAt l 0 0 := ⟨digTo_zero l, rfl, by decide⟩
theorem RNumAt.next {s : ByteArray} {k v : Nat} (h : RNumAt s.data.toList k v) (hk : k < s.size) (h0 : 48 ≤ s[k].toNat) (h1 : s[k].toNat ≤ 57) :
    RNumAt s.data.toList (k + 1) (v * 10 + (s[k].toNat - 48)) := by
  obtain ⟨hl, e⟩ := at_data hk
  obtain ⟨hd, rfl, hv⟩ := h
  exact ⟨digTo_succ hd hl (by rw [e hl]; exact (isD_iff _).2 ⟨h0, h1⟩), by rw [valL_take_succ _ _ hl, e hl], by rw [Nat.pow_succ]; omega⟩
theorem RNumAt.no {s : ByteArray} {k : Nat} (hk : k < s.size) (hn : s[k].toNat < 48 ∨ 57 < s[k].toNat) : okN s.data.toList = false := by
  obtain ⟨hl, e⟩ := at_data hk
  refine okN_digit hl ?_
  rw [e hl]
  cases h : isD s[k]
  · rfl
  · have := (isD_iff _).1 h; omega
theorem RNumAt.fin {s : ByteArray} {k v : Nat} (h : RNumAt s.data.toList k v) (hk : k = s.size) (h0 : 0 < s.size) :
    v = valL s.data.toList ∧ okN s.data.toList = (decide (Lib.decDigits v = s.data.toList) && decide (v ≤ 2147483647)) := by
  have hl := Lib.size_eq s
  subst hk
  obtain ⟨hd, rfl, hv⟩ := h
  rw [hl] at hd h0 ⊢
  rw [List.take_length]
  exact ⟨rfl, okN_ref h0 (by intro b hb; exact hd b (by rw [List.take_length]; exact hb))⟩
theorem pow_ten (k : Nat) (hk : k ≤ 10) : 10 ^ k ≤ 10000000000 := Nat.le_trans (Nat.pow_le_pow_right (by decide) hk) (by decide)
theorem okN_long {s : ByteArray} (h : 10 < s.size) : okN s.data.toList = false := by
  rw [Lib.size_eq] at h
  cases hn : nought s.data.toList
  · cases ha : s.data.toList.all isD
    · unfold okN; simp [ha]
    · have := val_long h (List.all_eq_true.1 ha) hn
      unfold okN
      have : decide (valL s.data.toList ≤ 2147483647) = false := by simp; omega
      simp [this]
  · exact okN_nought hn
end Go.Proofs.YtadihdkpoeibhaaDoor
