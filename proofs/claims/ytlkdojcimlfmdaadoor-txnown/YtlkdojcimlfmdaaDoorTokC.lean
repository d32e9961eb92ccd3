/- The walk of the reference's number of a word. Condition: none but a text's own bound. -/
import Derived.Test.YtlkdojcimlfmdaaDoorTokB
namespace Go.Proofs.YtlkdojcimlfmdaaDoor
set_option maxRecDepth 100000
open Go.RowKit

/-- The loop of the reference's Number. -/
def RNumAt (l : List UInt8) (k : Nat) (v : Nat) : Prop := digTo l k ∧ v = valL (l.take k) ∧ v < 10 ^ k
theorem RNumAt.start (l : List UInt8) : RNumAt l 0 0 := ⟨digTo_zero l, rfl, by decide⟩
theorem RNumAt.next {s : ByteArray} {k v : Nat} (h : RNumAt s.data.toList k v) (hk : k < s.size) (h0 : 48 ≤ s[k].toNat) (h1 : s[k].toNat ≤ 57) :
    RNumAt s.data.toList (k + 1) (v * 10 + (s[k].toNat - 48)) := by
  obtain ⟨hl, e⟩ := at_data hk
  obtain ⟨hd, rfl, hv⟩ := h
  exact ⟨digTo_succ hd hl (by rw [e hl]; exact (isD_iff _).2 ⟨h0, h1⟩), by rw [valL_take_succ _ _ hl, e hl], by rw [Nat.pow_succ]; omega⟩
theorem RNumAt.no {s : ByteArray} {k : Nat} (hk : k < s.size) (hn : s[k].toNat < 48 ∨ 57 < s[k].toNat) : okN s.data.toList = false := by
  obtain ⟨hl, e⟩ := at_data hk
  refine okN_digit hl ?_
  rw [e hl]
  cases h : isD s[k]
  · rfl
  · have := (isD_iff _).1 h; omega
theorem RNumAt.fin {s : ByteArray} {k v : Nat} (h : RNumAt s.data.toList k v) (hk : k = s.size) (h0 : 0 < s.size) :
    v = valL s.data.toList ∧ okN s.data.toList = (decide (Lib.decDigits v = s.data.toList) && decide (v ≤ 2147483647)) := by
  have hl := Lib.size_eq s
  subst hk
  obtain ⟨hd, rfl, hv⟩ := h
  rw [hl] at hd h0 ⊢
  rw [List.take_length]
  exact ⟨rfl, okN_ref h0 (by intro b hb; exact hd b (by rw [List.take_length]; exact hb))⟩
theorem pow_ten (k : Nat) (hk : k ≤ 10) : 10 ^ k ≤ 10000000000 := Nat.le_trans (Nat.pow_le_pow_right (by decide) hk) (by decide)
theorem okN_long {s : ByteArray} (h : 10 < s.size) : okN s.data.toList = false := by
  rw [Lib.size_eq] at h
  cases hn : nought s.data.toList
  · cases ha : s.data.toList.all isD
    · unfold okN; simp [ha]
    · have := val_long h (List.all_eq_true.1 ha) hn
      unfold okN
      have : decide (valL s.data.toList ≤ 2147483647) = false := by simp; omega
      simp [this]
  · exact okN_nought hn
set_option maxHeartbeats 1000000 in
theorem rnumber_any (s : ByteArray) (w : World) (hs : s.size ≤ maxLen) :
    Calls Tryd.prog 73 #[.string s] w fun e w' => e = .returned (.tuple #[.int .i64 ((numV s.data.toList : Nat) : Int), .bool (okN s.data.toList)]) ∧ Below w.heap.size w w' := by
  unfold maxLen at hs
  have NO : okN s.data.toList = false → (0 : Int) = ((numV s.data.toList : Nat) : Int) ∧ false = okN s.data.toList := fun h => ⟨by rw [numV_no h]; rfl, h.symm⟩
  by_cases h0 : s.size < 1
  · have H := Lib.hid (NO (okN_empty (by rw [← Lib.size_eq]; omega)))
    have h0' : (s.size : Int) < 1 := by omega
    clear NO
    go_enter Tryd.func73, Tryd.ntmps73
    go_wp2_with fail
    go_ret2
    exact ⟨ret_nb H.out.1 H.out.2, Below.refl _ _⟩
  have h0' : ¬ (s.size : Int) < 1 := by omega
  by_cases h1 : 10 < s.size
  · have H := Lib.hid (NO (okN_long h1))
    have h1' : (10 : Int) < (s.size : Int) := by omega
    clear NO
    go_enter Tryd.func73, Tryd.ntmps73
    go_wp2_with fail
    go_ret2
    exact ⟨ret_nb H.out.1 H.out.2, Below.refl _ _⟩
  have h1' : ¬ (10 : Int) < (s.size : Int) := by omega
  have HS := Lib.hid (RNumAt.start s.data.toList)
  have HNO := Lib.hid NO
  clear NO
  go_enter Tryd.func73, Tryd.ntmps73
  go_wp2_with fail
  go_loop [4, 5] (fun n i => ∃ k v : Nat, k ≤ s.size ∧ i = .int .i64 k ∧ n = .int .i64 v ∧ RNumAt s.data.toList k v) (fun _ i => s.size - (intOf i).toNat)
  case atStart => exact ⟨0, 0, by omega, rfl, rfl, HS.out⟩
  case round =>
    obtain ⟨k, v, hk, rfl, rfl, hat⟩ := hrel
    have hv : (v : Int) ≤ 10000000000 := by have := hat.2.2; have := pow_ten k (by omega); omega
    have hv0 : (0 : Int) ≤ (v : Int) := by omega
    have HAT := Lib.hid hat
    clear hat
    by_cases hlt : k < s.size
    · have hki : (k : Int) < (s.size : Int) := by omega
      have hb : s[k].toNat < 256 := UInt8.toNat_lt _
      by_cases c1 : (s[k].toNat : Int) < 48
      · have H := Lib.hid (HNO.out (RNumAt.no hlt (by omega)))
        go_wp2_with fail
        go_ret2
        exact ⟨ret_nb H.out.1 H.out.2, Below.refl _ _⟩
      · by_cases c2 : 57 < (s[k].toNat : Int)
        · have H := Lib.hid (HNO.out (RNumAt.no hlt (by omega)))
          go_wp2_with fail
          go_ret2
          exact ⟨ret_nb H.out.1 H.out.2, Below.refl _ _⟩
        · have HN := Lib.hid (HAT.out.next hlt (by omega) (by omega))
          have HE := Lib.hid (num_step v s[k].toNat (by omega))
          go_wp2_with fail
          go_round
          case rel => exact ⟨k + 1, _, by omega, by go_num, by rw [HE.out], HN.out⟩
          case measure => simp [intOf]; omega
    · obtain ⟨e1, e2⟩ := HAT.out.fin (by omega) (by omega)
      have H1 := Lib.hid e1
      have H2 := Lib.hid e2
      clear e1 e2
      have HC := Lib.hid (rnum_any (v : Int) w (by omega) (by omega))
      go_wp2_with fail
      refine (HC.out).mono ?_
      rintro e w1 ⟨rfl, hbw⟩
      obtain ⟨t, ht⟩ : ∃ t : ByteArray, t = ⟨(Lib.itoa (v : Int)).toArray⟩ := ⟨_, rfl⟩
      rw [← ht]
      have HT : Hid (t.toList = s.toList ↔ Lib.decDigits v = s.data.toList) := Lib.hid (by
        rw [ByteArray.toList_eq, ByteArray.toList_eq, ht]
        have : Lib.itoa (v : Int) = Lib.decDigits v := by unfold Lib.itoa; rw [if_neg (by omega), Int.toNat_natCast]
        rw [this])
      clear ht HC
      by_cases c1 : t.toList = s.toList
      · by_cases c2 : 2147483647 < (v : Int)
        · have H := Lib.hid (HNO.out (by rw [H2.out]; have : decide (v ≤ 2147483647) = false := by simp; omega
                                         rw [this]; simp))
          go_wp2_with fail
          go_ret2
          exact ⟨ret_nb H.out.1 H.out.2, hbw⟩
        · have HK : okN s.data.toList = true := by rw [H2.out]; simp; exact ⟨HT.out.1 c1, by omega⟩
          have H := Lib.hid (show (v : Int) = ((numV s.data.toList : Nat) : Int) ∧ true = okN s.data.toList from ⟨by unfold numV; rw [if_pos HK, H1.out], HK.symm⟩)
          clear HK
          go_wp2_with fail
          go_ret2
          exact ⟨ret_nb H.out.1 H.out.2, hbw⟩
      · have H := Lib.hid (HNO.out (by rw [H2.out]; have : ¬ Lib.decDigits v = s.data.toList := fun h => c1 (HT.out.2 h)
                                       simp [this]))
        go_wp2_with fail
        go_ret2
        exact ⟨ret_nb H.out.1 H.out.2, hbw⟩
end Go.Proofs.YtlkdojcimlfmdaaDoor
