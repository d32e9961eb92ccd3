/- Slices of texts, and the walk of the reference's Cut. Condition: none but a text's own bound. -/
import Derived.Test.YtjfegknokombgaaDoorTokC
import Derived.Test.YtjfegknokombgaaDoorSlc
import Derived.Test.YtjfegknokombgaaDoorSetE
namespace Go.Proofs.YtjfegknokombgaaDoor
set_option maxRecDepth 100000
open Go.RowKit

/-- The slice v holds these texts. -/
def Strs (w : World) (v : Value) (xs : List ByteArray) : Prop := Row w v xs.length 1 (xs.map Value.string)
theorem Strs.below {w w' : World} {v : Value} {xs : List ByteArray} (h : Strs w v xs) (hb : Below w.heap.size w w') : Strs w' v xs := Row.below h hb
theorem Strs.of_owns {w : World} {base : Nat} {e : TypeId} {v : Value} {n : Nat} {xs : List ByteArray} (h : w.ownsRow base e 1 v n (xs.map Value.string)) : Strs w v xs := by
  have hr := Row.of_owns h
  have hn : n = xs.length := by have := h.1; simp at this; omega
  subst hn; exact hr
theorem Strs.form {w : World} {v : Value} {xs : List ByteArray} (h : Strs w v xs) : ∃ ao cap, v = .slice ao xs.length cap ∧ (xs.length ≤ cap ∧ cap ≤ 9223372036854775807) ∧ (ao = none → xs.length = 0 ∧ cap = 0) := by
  obtain ⟨_, ao, cap, rfl, hm, hno, _⟩ := h
  exact ⟨ao, cap, rfl, hm, hno⟩
theorem Strs.at {w : World} {ao : Option Addr} {n cap : Nat} {xs : List ByteArray} (h : Strs w (.slice ao n cap) xs) {k : Nat} (hk : k < xs.length) :
    ∃ b off, ao = some ⟨b, off, none⟩ ∧ w.cell? ⟨b, off + k, none⟩ = some (.string xs[k]) := by
  obtain ⟨_, ao', cap', he, hm, _, hc⟩ := h
  obtain ⟨rfl, _, _⟩ : ao = ao' ∧ n = xs.length ∧ cap = cap' := by simpa using he
  obtain ⟨b, off, rfl, hcell⟩ := hc (by omega)
  refine ⟨b, off, rfl, ?_⟩
  rw [hcell k (by omega)]
  simp [List.getElem?_eq_getElem hk]
theorem infoStr : (Tryd.prog.info? 9).map (fun i => (i.zero, i.size, i.bytes)) = some (some (.string ByteArray.empty), 1, 16) := by kernel_rfl
/-- The pieces ahead of a place, where the last one is yet to come. -/
def CutAt (c : UInt8) (s : ByteArray) (a i : Nat) (acc : List ByteArray) : Prop := a ≤ i ∧ acc.length ≤ a ∧ Clear c s.data.toList a i ∧ cutB c s = acc ++ (cutL c (s.data.toList.drop a)).map fun l => ⟨l.toArray⟩
theorem CutAt.start (c : UInt8) (s : ByteArray) : CutAt c s 0 0 [] := ⟨by omega, by simp, clear_nil _ _ _, by simp [cutB]⟩
theorem CutAt.skip {c : UInt8} {s : ByteArray} {a i : Nat} {acc : List ByteArray} (h : CutAt c s a i acc) (hi : i < s.size) (hc : s[i] ≠ c) : CutAt c s a (i + 1) acc := by
  obtain ⟨h1, h2, h3, h4⟩ := h
  obtain ⟨hl, e⟩ := at_data hi
  exact ⟨by omega, h2, clear_next h3 h1 hl (by rw [e hl]; exact hc), h4⟩
theorem ext_list (s : ByteArray) (a b : Nat) : s.extract a b = ⟨((s.data.toList.drop a).take (b - a)).toArray⟩ := by
  apply byteArray_ext
  simp [ByteArray.extract, ByteArray.copySlice, List.extract_eq_take_drop]
theorem CutAt.hit {c : UInt8} {s : ByteArray} {a i : Nat} {acc : List ByteArray} (h : CutAt c s a i acc) (hi : i < s.size) (hc : s[i] = c) : CutAt c s (i + 1) (i + 1) (acc ++ [s.extract a i]) := by
  obtain ⟨h1, h2, h3, h4⟩ := h
  obtain ⟨hl, e⟩ := at_data hi
  refine ⟨by omega, by simp; omega, clear_nil _ _ _, ?_⟩
  rw [h4, cut_hit h3 h1 hl (by rw [e hl]; exact hc), ext_list]
  simp
theorem CutAt.fin {c : UInt8} {s : ByteArray} {a i : Nat} {acc : List ByteArray} (h : CutAt c s a i acc) (hi : i = s.size) : acc ++ [s.extract a i] = cutB c s := by
  obtain ⟨h1, h2, h3, h4⟩ := h
  have hl := Lib.size_eq s
  subst hi
  rw [hl] at h3
  rw [h4, cut_end h3, ext_list, hl, List.take_of_length_le (by rw [List.length_drop]; omega)]
  simp
def CutIn (c : UInt8) (s : ByteArray) (a i : Nat) (acc : List ByteArray) : Prop := (i ≤ s.size ∧ CutAt c s a i acc) ∨ (i = s.size + 1 ∧ acc = cutB c s)
set_option maxHeartbeats 2000000 in
theorem cut_any (s : ByteArray) (c : UInt8) (w : World) (hs : s.size ≤ 100000) :
    Calls Tryd.prog 27 #[.string s, .int .u8 (c.toNat : Int)] w fun e w' => ∃ v, e = .returned v ∧ Strs w' v (cutB c s) ∧ Below w.heap.size w w' := by
  obtain ⟨i0, hi, hz0, hz1, hz2⟩ := info_parts infoStr
  have HS := Lib.hid (CutAt.start c s)
  have hcb : c.toNat < 256 := UInt8.toNat_lt _
  go_enter Tryd.func27, Tryd.ntmps27
  go_wp2_with fail
  go_loopw [5, 6, 7] (fun v f i wr => ∃ (a k : Nat) (acc : List ByteArray), i = .int .i64 k ∧ f = .int .i64 a ∧ CutIn c s a k acc ∧ wr.ownsRow w.heap.size 9 1 v acc.length (acc.map Value.string) ∧ Below w.heap.size w wr)
    (fun _ _ i _ => s.size + 1 - (intOf i).toNat)
  case atStart => exact ⟨0, 0, [], rfl, rfl, .inl ⟨by omega, HS.out⟩, World.ownsRow_lit _ _ _ (Nat.le_refl _) (by simp) (by simp), (Below.refl _ _).alloc (Nat.le_refl _) _⟩
  case round =>
    obtain ⟨a, k, acc, rfl, rfl, hin, hown, hb⟩ := hrel
    rcases hin with ⟨hk, hat⟩ | ⟨rfl, hacc⟩
    case' inr =>
      have HA := Lib.hid hacc
      clear hacc
      go_wp2_with fail
      go_ret
      exact ⟨_, rfl, by rw [← HA.out]; exact Strs.of_owns hown, hb⟩
    have hak : (a : Int) ≤ (k : Int) := by have := hat.1; omega
    have hks : (k : Int) ≤ (s.size : Int) := by omega
    have hal := hat.2.1
    have hsz := hb.size
    have HAT := Lib.hid hat
    clear hat
    have APP : ∀ x : ByteArray, (acc ++ [x]).map Value.string = acc.map Value.string ++ [Value.string x] := fun x => by simp
    have HAPP := Lib.hid APP
    clear APP
    rcases Nat.lt_or_ge k s.size with hlt | hge
    · have hki : (k : Int) < (s.size : Int) := by omega
      have hne : ((k : Int) == (s.size : Int)) = false := by rw [beq_eq_false_iff_ne]; omega
      by_cases he : s[k] = c
      · have hb1 : ((s[k].toNat : Int) == (c.toNat : Int)) = true := by rw [he]; simp
        have HN := Lib.hid (HAT.out.hit hlt he)
        clear he
        go_wp2_with (at_builtin; refine wpList_append_own _ rfl _ _ 45 rfl w.heap.size 9 i0 (.string ByteArray.empty) 1 16 Tryd.underlying45 hi hz0 hz1 hz2 rfl (by decide) _ _ _ rfl (hown.alloc _) ⟨_, 0, none⟩ 1 1 [.string (s.extract a k)] rfl rfl ?d1 ?d2 ?d3 ?d4 ?d5 ?_)
        case d1 => exact cell_one_new _ _ _
        case d2 => intro u hu; simp at hu; subst hu; rfl
        case d3 => unfold maxLen; omega
        case d4 => omega
        case d5 => simp; omega
        intro v6 w6 hown6 hg6 _
        have hb6 := below_app hb (Nat.le_refl _) hown hg6
        clear hown hb hg6
        go_wp2_with fail
        go_roundw
        case rel => exact ⟨k + 1, k + 1, _, by go_num, by go_num, .inl ⟨by omega, HN.out⟩, by rw [HAPP.out]; simpa using hown6, hb6⟩
        case measure => simp [intOf]; omega
      · have hb1 : ((s[k].toNat : Int) == (c.toNat : Int)) = false := by
          rw [beq_eq_false_iff_ne]
          intro h
          exact he (UInt8.toNat_inj.1 (by omega))
        have HN := Lib.hid (HAT.out.skip hlt he)
        clear he
        go_wp2_with fail
        go_roundw
        case rel => exact ⟨a, k + 1, _, by go_num, rfl, .inl ⟨by omega, HN.out⟩, hown, hb⟩
        case measure => simp [intOf]; omega
    · obtain rfl : k = s.size := by omega
      have HN := Lib.hid (HAT.out.fin rfl)
      clear hge
      go_wp2_with (at_builtin; refine wpList_append_own _ rfl _ _ 45 rfl w.heap.size 9 i0 (.string ByteArray.empty) 1 16 Tryd.underlying45 hi hz0 hz1 hz2 rfl (by decide) _ _ _ rfl (hown.alloc _) ⟨_, 0, none⟩ 1 1 [.string (s.extract a s.size)] rfl rfl ?d1 ?d2 ?d3 ?d4 ?d5 ?_)
      case d1 => exact cell_one_new _ _ _
      case d2 => intro u hu; simp at hu; subst hu; rfl
      case d3 => unfold maxLen; omega
      case d4 => omega
      case d5 => simp; omega
      intro v6 w6 hown6 hg6 _
      have hb6 := below_app hb (Nat.le_refl _) hown hg6
      clear hown hb hg6
      go_wp2_with fail
      go_roundw
      case rel => exact ⟨s.size + 1, s.size + 1, _, by go_num, by go_num, .inr ⟨rfl, HN.out⟩, by rw [HAPP.out]; simpa using hown6, hb6⟩
      case measure => simp [intOf]
end Go.Proofs.YtjfegknokombgaaDoor
