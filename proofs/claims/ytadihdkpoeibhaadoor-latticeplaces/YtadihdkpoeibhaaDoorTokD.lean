/- Slices of texts, and the walk of the reference's Cut. Condition: none but a text's own bound. -/
import Derived.Test.YtadihdkpoeibhaaDoorTokC
import Derived.Test.YtadihdkpoeibhaaDoorSlc
import Derived.Test.YtadihdkpoeibhaaDoorSetE
namespace Go.Proofs.YtadihdkpoeibhaaDoor
set_option maxRecDepth 100000
open Go.RowKit

/-- The slice v holds these texts. -/
def Strs (w : World) (v : Value) (xs : List ByteArray) : Prop := Row w v xs.length 1 (xs.map Value.string)
theorem Strs.below {w w' : World} {v : Value} {xs : List ByteArray} (h : Strs w v xs) (hb : Below w.heap.size w w') : Strs w' v xs := Row.below h hb
theorem Strs.of_owns {w : World} {base : Nat} {e : TypeId} {v : Value} {n : Nat} {xs : List ByteArray} (h : w.ownsRow base e 1 v n (xs.map Value.string)) : Strs w v xs := by
  have hr := Row.of_owns h
  have hn : n = xs.length := by have := h.1; simp at this; omega
  subst hn; exact hr
theorem Strs.form {w : World} {v : Value} {xs : List ByteArray} (h : Strs w v xs) : ∃ ao cap, v = .slice ao xs.length cap ∧ (xs.length ≤ cap ∧ cap ≤ 9223372036854775807) ∧ (ao = none → xs.length = 0 ∧ cap = 0) := by
  obtain ⟨_, ao, cap, rfl, hm, hno, _⟩ := h
  exact ⟨ao, cap, rfl, hm, hno⟩
theorem Strs.at {w : World} {ao : Option Addr} {n cap : Nat} {xs : List ByteArray} (h : Strs w (.slice ao n cap) xs) {k : Nat} (hk : k < xs.length) :
    ∃ b off, ao = some ⟨b, off, none⟩ ∧ w.cell? ⟨b, off + k, none⟩ = some (.string xs[k]) := by
  obtain ⟨_, ao', cap', he, hm, _, hc⟩ := h
  obtain ⟨rfl, _, _⟩ : ao = ao' ∧ n = xs.length ∧ cap = cap' := by simpa using he
  obtain ⟨b, off, rfl, hcell⟩ := hc (by omega)
  refine ⟨b, off, rfl, ?_⟩
  rw [hcell k (by omega)]
  simp [List.getElem?_eq_getElem hk]
theorem infoStr : (Tryd.prog.info? 9).map (fun i => (i.zero, i.size, i.bytes)) = some (some (.string ByteArray.empty), 1, 16) := by kernel_rfl
/-- The pieces ahead of a place, where the last one is yet to come. -/
def CutAt (c : UInt8) (s : ByteArray) (a i : Nat) (acc : List ByteArray) : Prop := a ≤ i ∧ acc.length ≤ a ∧ Clear c s.data.toList a i ∧ cutB c s = acc ++ (cutL c (s.data.toList.drop a)).map fun l => ⟨l.toArray⟩
theorem CutAt.start (c : UInt8) (s : ByteArray) : CutAt c s 0 0 [] := ⟨by omega, by simp, clear_nil _ _ _, by simp [cutB]⟩
theorem CutAt.skip {c : UInt8} {s : ByteArray} {a i : Nat} {acc : List ByteArray} (h : CutAt c s a i acc) (hi : i < s.size) (hc : s[i] ≠ c) : CutAt c s a (i + 1) acc := by
  obtain ⟨h1, h2, h3, h4⟩ := h
  obtain ⟨hl, e⟩ := at_data hi
  exact ⟨by omega, h2, clear_next h3 h1 hl (by rw [e hl]; exact hc), h4⟩
theorem ext_list (s : ByteArray) (a b : Nat) : s.extract a b = ⟨((s.data.toList.drop a).take (b - a)).toArray⟩ := by
  apply byteArray_ext
  simp [ByteArray.extract, ByteArray.copySlice, List.extract_eq_take_drop]
theorem CutAt.hit {c : UInt8} {s : ByteArray} {a i : Nat} {acc : List ByteArray} (h : CutAt c s a i acc) (hi : i < s.size) (hc : s[i] = c) : CutAt c s (i + 1) (i + 1) (acc ++ [s.extract a i]) := by
  obtain ⟨h1, h2, h3, h4⟩ := h
  obtain ⟨hl, e⟩ := at_data hi
  refine ⟨by omega, by simp; omega, clear_nil _ _ _, ?_⟩
  rw [h4, cut_hit h3 h1 hl (by rw [e hl]; exact hc), ext_list]
  simp
theorem CutAt.fin {c : UInt8} {s : ByteArray} {a i : Nat} {acc : List ByteArray} (h : CutAt c s a i acc) (hi : i = s.size) : acc ++ [s.extract a i] = cutB c s := by
  obtain ⟨h1, h2, h3, h4⟩ := h
  have hl := Lib.size_eq s
  subst hi
  rw [hl] at h3
  rw [h4, cut_end h3, ext_list, hl, List.take_of_length_le (by rw [List.length_drop]; omega)]
  simp
def CutIn (c : UInt8) (s : ByteArray) (a i : Nat) (acc : List ByteArray) : Prop := (i ≤ s.size ∧ CutAt c s a i acc) ∨ (i = s.size + 1 ∧ acc = cutB c s)
end Go.Proofs.YtadihdkpoeibhaaDoor
