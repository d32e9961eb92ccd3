/- The walks of the statements on numbers and on words: they answer true. Conditions: the library's variables are as a start leaves them; slices' cells are known, and hold ints. -/
import Derived.Test.YtjfegknokombgaaDoorTokI
namespace Go.Proofs.YtjfegknokombgaaDoor
set_option maxRecDepth 100000
open Go.RowKit

theorem joinB_succ (s : ByteArray) (l : List Int) (k : Nat) (hk : k < l.length) : joinB s (l.take (k + 1)) = joinB s (l.take k) ++ (⟨#[32]⟩ ++ ⟨(Lib.itoa l[k]).toArray⟩) := by
  apply byteArray_ext
  unfold joinB
  simp only [ByteArray.data_append, Array.toList_append]
  rw [joinTo_succ s.data.toList l k hk]
  simp
theorem joinB_zero (s : ByteArray) (l : List Int) : joinB s (l.take 0) = s := by
  apply byteArray_ext
  unfold joinB
  simp [joinTo]
theorem joinB_size (s : ByteArray) (l : List Int) (hl : ∀ n ∈ l, IntOk n) : (joinB s l).size ≤ s.size + 22 * l.length := by
  have := joinTo_len s.data.toList l hl
  have e : (joinB s l).size = (joinTo s.data.toList l).length := by unfold joinB; simp [ByteArray.size]
  rw [e, Lib.size_eq s]; exact this
theorem ints_none (w : World) : Ints w (.slice none 0 0) [] := ⟨by simp, none, 0, rfl, by simp, fun _ => ⟨rfl, rfl⟩, fun h => by simp at h⟩
set_option maxHeartbeats 2000000 in
theorem numbers_walk (s : ByteArray) (va : Value) (l : List Int) (w : World) (he : Env w) (hI : Ints w va l) (hl : ∀ n ∈ l, IntOk n) (hs : s.size ≤ maxLen) :
    Calls Tryd.prog 4 #[.string s, va] w fun e w' => e = .returned (.bool true) ∧ Below w.heap.size w w' := by
  obtain ⟨ao, cap, rfl, hal⟩ := hI.form
  have HEN : Hid (∀ wx, Below w.heap.size w wx → Env wx) := Lib.hid (fun wx h => he.below h)
  have hm : s.size ≤ 9223372036854775807 := hs
  clear he hs
  by_cases h1 : 200 < s.size
  · have h1' : (200 : Int) < (s.size : Int) := by omega
    go_enter Tryd.func4, Tryd.ntmps4
    go_wp2_with fail
    refine (speaks3_any w (HEN.out _ (Below.refl _ _))).mono ?_
    rintro e w1 ⟨rfl, hb1⟩
    go_wp2_with fail
    go_ret
    exact ⟨rfl, hb1⟩
  by_cases h2 : 50 < l.length
  · have h1' : ¬ (200 : Int) < (s.size : Int) := by omega
    have h2' : (50 : Int) < (l.length : Int) := by omega
    go_enter Tryd.func4, Tryd.ntmps4
    go_wp2_with fail
    refine (speaks3_any w (HEN.out _ (Below.refl _ _))).mono ?_
    rintro e w1 ⟨rfl, hb1⟩
    go_wp2_with fail
    go_ret
    exact ⟨rfl, hb1⟩
  have h1' : ¬ (200 : Int) < (s.size : Int) := by omega
  have h2' : ¬ (50 : Int) < (l.length : Int) := by omega
  have HL := Lib.hid hl
  clear hl
  go_enter Tryd.func4, Tryd.ntmps4
  go_wp2_with fail
  refine (speaks3_any w (HEN.out _ (Below.refl _ _))).mono ?_
  rintro e w1 ⟨rfl, hb1⟩
  have CN := Lib.hid (number_any s w1 (by unfold maxLen; omega))
  have CR := Lib.hid (rnumber_any s w1 (by unfold maxLen; omega))
  generalize okN s.data.toList = ok at *
  generalize ((numV s.data.toList : Nat) : Int) = v at *
  go_wp2_with fail
  refine (CN.out).mono ?_
  rintro e w' ⟨rfl, rfl⟩
  go_wp2_with fail
  refine (CR.out).mono ?_
  rintro e w2 ⟨rfl, hb2⟩
  have hbb := hb1.trans (hb2.mono hb1.size)
  clear CN CR hb1 hb2
  have HZ := Lib.hid (joinB_zero s l)
  go_wp2_with fail
  go_loopw [9, 35] (fun t i wr => ∃ k : Nat, k ≤ l.length ∧ i = .int .i64 k ∧ t = .string (joinB s (l.take k)) ∧ Below w.heap.size w wr) (fun _ i _ => l.length - (intOf i).toNat)
  case atStart => exact ⟨0, by omega, rfl, by rw [HZ.out], hbb⟩
  case round =>
    obtain ⟨k, hk, rfl, rfl, hb⟩ := hrel
    have hszr := hb.size
    by_cases hlt : k < l.length
    · have hki : (k : Int) < (l.length : Int) := by omega
      obtain ⟨b, off, hao, hc⟩ := (hI.below hb).at hlt
      cases hao
      have HS := Lib.hid (joinB_succ s l k hlt)
      have hsz := joinB_size s (l.take k) (fun n hn => HL.out n (List.mem_of_mem_take hn))
      have hxi := HL.out l[k] (List.getElem_mem hlt)
      rw [List.length_take, Nat.min_eq_left hk] at hsz
      generalize joinB s (l.take k) = B at *
      generalize l[k] = x at *
      have hBs : (B.size : Int) ≤ 8388608 := by omega
      have CN := Lib.hid (rnum_any x wr hxi.1 hxi.2)
      have hts := itoa_short hxi.1 hxi.2 (t := ⟨(Lib.itoa x).toArray⟩) rfl
      clear hsz hxi
      obtain ⟨t, ht⟩ : ∃ t : ByteArray, t = ⟨(Lib.itoa x).toArray⟩ := ⟨_, rfl⟩
      rw [← ht] at CN HS hts
      clear ht
      have hcs : (((⟨#[32]⟩ : ByteArray) ++ t).size : Int) ≤ 8388608 := by rw [ByteArray.size_append]; have : (⟨#[32]⟩ : ByteArray).size = 1 := rfl; omega
      go_wp2_with fail
      refine (CN.out).mono ?_
      rintro e w3 ⟨rfl, hb3⟩
      have hb4 := hb.trans (hb3.mono hszr)
      go_wp2_with fail
      go_roundw
      case rel => exact ⟨k + 1, by omega, by go_num, by rw [HS.out], hb4⟩
      case measure => simp [intOf]; omega
    · obtain rfl : k = l.length := by omega
      have CJ := Lib.hid (join_any s _ l wr (HEN.out _ hb) (hI.below hb) HL.out (by omega))
      rw [List.take_length]
      generalize joinB s l = J at *
      go_wp2_with fail
      refine (CJ.out).mono ?_
      rintro e w3 ⟨rfl, hb3⟩
      have hb4 := hb.trans (hb3.mono hszr)
      go_wp2_with fail
      go_ret
      exact ⟨rfl, hb4⟩
set_option maxHeartbeats 2000000 in
theorem words_walk (s : ByteArray) (many : Int) (w : World) (he : Env w) (hm : IntOk many) (hs : s.size ≤ maxLen) :
    Calls Tryd.prog 5 #[.string s, .int .i64 many] w fun e w' => e = .returned (.bool true) ∧ Below w.heap.size w w' := by
  have HEN : Hid (∀ wx, Below w.heap.size w wx → Env wx) := Lib.hid (fun wx h => he.below h)
  have hmm : s.size ≤ 9223372036854775807 := hs
  have HM := Lib.hid hm
  clear he hs hm
  by_cases h1 : 500 < s.size
  · have h1' : (500 : Int) < (s.size : Int) := by omega
    go_enter Tryd.func5, Tryd.ntmps5
    go_wp2_with fail
    refine (speaks3_any w (HEN.out _ (Below.refl _ _))).mono ?_
    rintro e w1 ⟨rfl, hb1⟩
    go_wp2_with fail
    go_ret
    exact ⟨rfl, hb1⟩
  have h1' : ¬ (500 : Int) < (s.size : Int) := by omega
  cases hW : wordsOK s many
  · have CA := Lib.hid (fun (wx : World) (h : Env wx) => words_isnt s many wx h (by omega) hW)
    have CB := Lib.hid (fun (wx : World) => rwords_isnt s many wx (by omega) HM.out.1 HM.out.2 hW)
    clear hW
    go_enter Tryd.func5, Tryd.ntmps5
    go_wp2_with fail
    refine (speaks3_any w (HEN.out _ (Below.refl _ _))).mono ?_
    rintro e w1 ⟨rfl, hb1⟩
    go_wp2_with fail
    refine (CA.out _ (HEN.out _ hb1)).mono ?_
    rintro e w2 ⟨rfl, hb2⟩
    have hbb := hb1.trans (hb2.mono hb1.size)
    go_wp2_with fail
    refine (CB.out _).mono ?_
    rintro e w3 ⟨rfl, hb3⟩
    have hbc := hbb.trans (hb3.mono hbb.size)
    go_wp2_with fail
    refine (same_self _ _ [] w3 (ints_none _) (ints_none _)).mono ?_
    rintro e w4 ⟨rfl, hb4⟩
    have hbd := hbc.trans (hb4.mono hbc.size)
    go_wp2_with fail
    go_ret
    exact ⟨rfl, hbd⟩
  · have CA := Lib.hid (fun (wx : World) (h : Env wx) => words_is s many wx h (by omega) hW)
    have CB := Lib.hid (fun (wx : World) => rwords_is s many wx (by omega) HM.out.1 HM.out.2 hW)
    clear hW
    generalize numsOf s = L at *
    generalize headB s = p at *
    go_enter Tryd.func5, Tryd.ntmps5
    go_wp2_with fail
    refine (speaks3_any w (HEN.out _ (Below.refl _ _))).mono ?_
    rintro e w1 ⟨rfl, hb1⟩
    go_wp2_with fail
    refine (CA.out _ (HEN.out _ hb1)).mono ?_
    rintro e w2 ⟨v1, rfl, hI1, hb2⟩
    have hbb := hb1.trans (hb2.mono hb1.size)
    obtain ⟨ao1, cap1, rfl, _⟩ := hI1.form
    go_wp2_with fail
    refine (CB.out _).mono ?_
    rintro e w3 ⟨v2, rfl, hI2, hb3⟩
    have hbc := hbb.trans (hb3.mono hbb.size)
    have CS := Lib.hid (same_self _ _ L w3 (hI1.below hb3) hI2)
    obtain ⟨ao2, cap2, rfl, _⟩ := hI2.form
    clear hI1 hI2
    go_wp2_with fail
    refine (CS.out).mono ?_
    rintro e w4 ⟨rfl, hb4⟩
    have hbd := hbc.trans (hb4.mono hbc.size)
    go_wp2_with fail
    go_ret
    exact ⟨rfl, hbd⟩
end Go.Proofs.YtjfegknokombgaaDoor
