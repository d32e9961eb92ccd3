/- The walk of the statement on operations' texts: it answers true. Conditions: numbers are ints; the library's variables are as a start leaves them. -/
import Derived.Test.YtjfegknokombgaaDoorOpC
namespace Go.Proofs.YtjfegknokombgaaDoor
set_option maxRecDepth 100000
open Go.RowKit

set_option maxHeartbeats 1000000 in
theorem may_any (wr : Bool) (key val : Int) (w : World) :
    Calls Tryd.prog 32 #[.agg #[.bool wr, .int .i64 key, .int .i64 val]] w fun e w' => e = .returned (.bool (mayO ⟨wr, key, val⟩)) ∧ Below w.heap.size w w' := by
  have hi := mayO_iff ⟨wr, key, val⟩
  by_cases h : mayO ⟨wr, key, val⟩ = true
  · obtain ⟨⟨h1, h2⟩, ⟨h3, h4⟩, h5⟩ := hi.1 h
    have HM := Lib.hid h
    have c1 : (0 : Int) ≤ key := by simpa using h1
    have c2 : key < 64 := by simpa using h2
    have c3 : (0 : Int) ≤ val := by simpa using h3
    have c4 : val ≤ 2147483647 := by simpa using h4
    simp only at h5
    clear h1 h2 h3 h4
    clear h hi
    cases wr
    · clear h5
      go_enter Tryd.func32, Tryd.ntmps32
      go_wp2_with fail
      go_ret
      exact ⟨ret_b HM.out.symm, box_below _ _⟩
    · have c5 : (val != 0) = true := by rw [bne_iff_ne]; exact h5 rfl
      clear h5
      go_enter Tryd.func32, Tryd.ntmps32
      go_wp2_with fail
      go_ret
      exact ⟨ret_b HM.out.symm, box_below _ _⟩
  · have HM : Hid (mayO ⟨wr, key, val⟩ = false) := Lib.hid (by simpa using h)
    have hn : ¬ ((0 ≤ key ∧ key < 64) ∧ (0 ≤ val ∧ val ≤ 2147483647) ∧ (wr = true → val ≠ 0)) := fun k => h (hi.2 k)
    clear h hi
    by_cases c1 : key < 0
    · go_enter Tryd.func32, Tryd.ntmps32
      clear hn
      go_wp2_with fail
      go_ret
      exact ⟨ret_b HM.out.symm, box_below _ _⟩
    by_cases c2 : (64 : Int) ≤ key
    · clear hn
      go_enter Tryd.func32, Tryd.ntmps32
      go_wp2_with fail
      go_ret
      exact ⟨ret_b HM.out.symm, box_below _ _⟩
    by_cases c3 : val < 0
    · clear hn
      go_enter Tryd.func32, Tryd.ntmps32
      go_wp2_with fail
      go_ret
      exact ⟨ret_b HM.out.symm, box_below _ _⟩
    by_cases c4 : (2147483647 : Int) < val
    · clear hn
      go_enter Tryd.func32, Tryd.ntmps32
      go_wp2_with fail
      go_ret
      exact ⟨ret_b HM.out.symm, box_below _ _⟩
    cases wr
    · exfalso; apply hn; exact ⟨⟨by omega, by omega⟩, ⟨by omega, by omega⟩, fun h => by cases h⟩
    · have hv : val = 0 := by
        by_cases h : val = 0
        · exact h
        · exfalso; apply hn; exact ⟨⟨by omega, by omega⟩, ⟨by omega, by omega⟩, fun _ => h⟩
      subst hv
      clear hn
      go_enter Tryd.func32, Tryd.ntmps32
      go_wp2_with fail
      go_ret
      exact ⟨ret_b HM.out.symm, box_below _ _⟩
theorem mayO_inR (o : OpV) (h : mayO o = true) : inR o.key = true ∧ inR o.val = true := by
  obtain ⟨h1, h2, _⟩ := (mayO_iff o).1 h
  unfold inR
  simp; omega
theorem parse_text (wr : Bool) (key val : Int) : parseR (textB wr key val) = if mayO ⟨wr, key, val⟩ then (true, ⟨wr, key, val⟩) else (false, opZ) := by
  have hc : ∀ x ∈ (if wr then (⟨#[119]⟩ : ByteArray) else ⟨#[114]⟩).data.toList, x ≠ 32 := by cases wr <;> decide
  obtain ⟨e1, e2, e3⟩ := words_join (if wr then ⟨#[119]⟩ else ⟨#[114]⟩) [key, val] hc
  change wordsOK (textB wr key val) 2 = _ at e1
  change headB (textB wr key val) = _ at e2
  change _ → numsOf (textB wr key val) = _ at e3
  cases ha : allR [key, val]
  · rw [ha] at e1
    rw [parseR_no e1]
    have hm : mayO ⟨wr, key, val⟩ = false := by
      cases hm : mayO ⟨wr, key, val⟩
      · rfl
      · obtain ⟨h1, h2⟩ := mayO_inR _ hm
        have : allR [key, val] = true := by unfold allR; simp at h1 h2; simp [h1, h2]
        rw [this] at ha; cases ha
    rw [hm]; rfl
  · rw [ha] at e1
    rw [parseR_at e1 (e3 ha)]
    have i1 : isW (textB wr key val) = wr := by unfold isW; rw [e2]; cases wr <;> rfl
    have i2 : (isW (textB wr key val) || isRd (textB wr key val)) = true := by unfold isW isRd; rw [e2]; cases wr <;> rfl
    rw [i2, i1, Bool.true_and]
/-- The text as the statement puts it together. -/
theorem text_parts (wr : Bool) (key val : Int) (c : UInt8) (hc : (if wr then (⟨#[119]⟩ : ByteArray) else ⟨#[114]⟩) = ⟨#[c]⟩) :
    (⟨#[c, 32]⟩ : ByteArray) ++ (((⟨(Lib.itoa key).toArray⟩ : ByteArray) ++ ⟨#[32]⟩) ++ ⟨(Lib.itoa val).toArray⟩) = textB wr key val := by
  apply byteArray_ext
  unfold textB joinB joinTo
  rw [hc]
  simp
end Go.Proofs.YtjfegknokombgaaDoor
