/- The walk of the statement on numbers joined and read again: it answers true. Condition: the library's variables are as a start leaves them; a slice's cells are known, and hold ints. -/
import Derived.Test.YtjfegknokombgaaDoorTokK
namespace Go.Proofs.YtjfegknokombgaaDoor
set_option maxRecDepth 100000
open Go.RowKit

theorem dec_clear (u : Nat) : ∀ x ∈ Lib.decDigits u, x ≠ 32 := by
  intro x hx e
  have := (dec_all u).1 x hx
  subst e
  exact absurd this (by decide)
theorem itoa_clear (n : Int) : ∀ x ∈ Lib.itoa n, x ≠ 32 := by
  intro x hx
  unfold Lib.itoa at hx
  split at hx
  · rcases List.mem_cons.1 hx with rfl | hx
    · decide
    · exact dec_clear _ x hx
  · exact dec_clear _ x hx
theorem joinTo_cons (s : List UInt8) (a : Int) (l : List Int) : joinTo s (a :: l) = s ++ 32 :: joinTo (Lib.itoa a) l := by
  unfold joinTo; rw [List.flatMap_cons]; simp
theorem cut_join : ∀ (l : List Int) (s : List UInt8), (∀ x ∈ s, x ≠ 32) → cutL 32 (joinTo s l) = s :: l.map Lib.itoa
  | [], s, h => by rw [joinTo_nil, cutL_none h]; rfl
  | a :: l, s, h => by rw [joinTo_cons, cutL_app _ h, cut_join l _ (itoa_clear a)]; rfl
def inR (n : Int) : Bool := decide (0 ≤ n) && decide (n ≤ 2147483647)
theorem okN_itoa (n : Int) : okN (Lib.itoa n) = inR n ∧ (inR n = true → ((numV (Lib.itoa n) : Nat) : Int) = n) := by
  unfold Lib.itoa inR
  by_cases h : n < 0
  · rw [if_pos h]
    have h0 : decide (0 ≤ n) = false := by simp; omega
    rw [h0]
    refine ⟨?_, fun h => by simp at h⟩
    exact okN_digit (k := 0) (by simp) (show isD 45 = false from by decide)
  · rw [if_neg h]
    have h0 : decide (0 ≤ n) = true := by simp; omega
    rw [h0, Bool.true_and]
    by_cases h1 : n ≤ 2147483647
    · obtain ⟨e1, e2⟩ := numV_dec (u := n.toNat) (by omega)
      rw [e1, e2]
      exact ⟨by simp [h1], fun _ => by omega⟩
    · have h1' : decide (n ≤ 2147483647) = false := by simp; omega
      rw [h1']
      refine ⟨?_, fun h => by cases h⟩
      obtain ⟨_, e, _, _⟩ := dec_all n.toNat
      unfold okN
      rw [e]
      have : decide (n.toNat ≤ 2147483647) = false := by simp; omega
      rw [this]; simp
theorem cutB_join (s : ByteArray) (l : List Int) (h : ∀ x ∈ s.data.toList, x ≠ 32) : cutB 32 (joinB s l) = s :: l.map fun n => ⟨(Lib.itoa n).toArray⟩ := by
  unfold cutB joinB
  have e : (⟨(joinTo s.data.toList l).toArray⟩ : ByteArray).data.toList = joinTo s.data.toList l := by simp
  rw [e, cut_join _ _ h, List.map_cons, List.map_map]
  congr 1
def allR (l : List Int) : Bool := l.all inR
theorem words_join (s : ByteArray) (l : List Int) (h : ∀ x ∈ s.data.toList, x ≠ 32) : wordsOK (joinB s l) (l.length : Int) = allR l ∧ headB (joinB s l) = s ∧ (allR l = true → numsOf (joinB s l) = l) := by
  unfold wordsOK headB numsOf
  rw [cutB_join s l h, List.tail_cons]
  refine ⟨?_, rfl, fun ha => ?_⟩
  · have e1 : decide ((((s :: l.map fun n => (⟨(Lib.itoa n).toArray⟩ : ByteArray)).length : Nat) : Int) = (l.length : Int) + 1) = true := by simp
    rw [e1, Bool.true_and]
    unfold allR
    rw [List.all_map]
    congr 1
    funext n
    exact (okN_itoa n).1
  · unfold numsB
    rw [List.map_map]
    calc _ = l.map id := List.map_congr_left (fun n hn => (okN_itoa n).2 (List.all_eq_true.1 ha n hn))
      _ = l := List.map_id _
theorem allR_succ (l : List Int) (k : Nat) (hk : k < l.length) : allR (l.take (k + 1)) = (allR (l.take k) && inR l[k]) := by
  unfold allR; rw [List.take_succ_eq_append_getElem hk, List.all_append]; simp
set_option maxHeartbeats 4000000 in
theorem back3_walk (va : Value) (l : List Int) (w : World) (he : Env w) (hI : Ints w va l) (hl : ∀ n ∈ l, IntOk n) :
    Calls Tryd.prog 7 #[va] w fun e w' => e = .returned (.bool true) ∧ Below w.heap.size w w' := by
  obtain ⟨ao, cap, rfl, hal⟩ := hI.form
  have HEN : Hid (∀ wx, Below w.heap.size w wx → Env wx) := Lib.hid (fun wx h => he.below h)
  clear he
  by_cases h2 : 50 < l.length
  · have h2' : (50 : Int) < (l.length : Int) := by omega
    go_enter Tryd.func7, Tryd.ntmps7
    go_wp2_with fail
    refine (speaks3_any w (HEN.out _ (Below.refl _ _))).mono ?_
    rintro e w1 ⟨rfl, hb1⟩
    go_wp2_with fail
    go_ret
    exact ⟨rfl, hb1⟩
  have h2' : ¬ (50 : Int) < (l.length : Int) := by omega
  have HL := Lib.hid hl
  have hlb := joinB_size ⟨#[120]⟩ l hl
  rw [show (⟨#[120]⟩ : ByteArray).size = 1 from rfl] at hlb
  have HWJ := Lib.hid (words_join ⟨#[120]⟩ l (by decide))
  clear hl
  go_enter Tryd.func7, Tryd.ntmps7
  go_wp2_with fail
  refine (speaks3_any w (HEN.out _ (Below.refl _ _))).mono ?_
  rintro e w1 ⟨rfl, hb1⟩
  have hI1 := hI.below hb1
  go_wp2_with fail
  go_loop [3, 16] (fun t i => ∃ (k : Nat) (r : Bool), k ≤ l.length ∧ i = .int .i64 k ∧ t = .bool r ∧ r = allR (l.take k)) (fun _ i => l.length - (intOf i).toNat)
  case atStart => exact ⟨0, true, by omega, rfl, rfl, rfl⟩
  case round =>
    obtain ⟨k, r, hk, rfl, rfl, hr⟩ := hrel
    have HR := Lib.hid hr
    clear hr
    by_cases hlt : k < l.length
    · have hki : (k : Int) < (l.length : Int) := by omega
      obtain ⟨b, off, hao, hc⟩ := hI1.at hlt
      cases hao
      have HS := Lib.hid (allR_succ l k hlt)
      generalize l[k] = x at *
      have HV : Hid (∀ r2, r2 = (r && inR x) → r2 = allR (l.take (k + 1))) := Lib.hid (fun r2 h => by rw [HS.out, h, HR.out])
      clear HS HR
      cases r
      · go_wp2_with fail
        go_round
        case rel => exact ⟨k + 1, false, by omega, by go_num, rfl, HV.out _ rfl⟩
        case measure => simp [intOf]; omega
      · by_cases h0 : 0 ≤ x
        · by_cases h1 : x ≤ 2147483647
          · have hd : inR x = true := by unfold inR; simp [h0, h1]
            have HV2 := Lib.hid (HV.out true (by rw [hd]; rfl))
            clear hd HV
            go_wp2_with fail
            go_round
            case rel => exact ⟨k + 1, true, by omega, by go_num, rfl, HV2.out⟩
            case measure => simp [intOf]; omega
          · have hd : inR x = false := by unfold inR; simp; omega
            have HV2 := Lib.hid (HV.out false (by rw [hd]; rfl))
            clear hd HV
            go_wp2_with fail
            go_round
            case rel => exact ⟨k + 1, false, by omega, by go_num, rfl, HV2.out⟩
            case measure => simp [intOf]; omega
        · have hd : inR x = false := by unfold inR; simp; omega
          have HV2 := Lib.hid (HV.out false (by rw [hd]; rfl))
          clear hd HV
          go_wp2_with fail
          go_round
          case rel => exact ⟨k + 1, false, by omega, by go_num, rfl, HV2.out⟩
          case measure => simp [intOf]; omega
    · obtain rfl : k = l.length := by omega
      rw [List.take_length] at HR
      have CJ := Lib.hid (join_any ⟨#[120]⟩ _ l w1 (HEN.out _ hb1) hI1 HL.out (by rw [show (⟨#[120]⟩ : ByteArray).size = 1 from rfl]; omega))
      cases r
      · have CW := Lib.hid (fun (wx : World) (h : Env wx) => words_isnt (joinB ⟨#[120]⟩ l) (l.length : Int) wx h (by omega) (by rw [HWJ.out.1, ← HR.out]))
        generalize joinB ⟨#[120]⟩ l = J at *
        go_wp2_with fail
        refine (CJ.out).mono ?_
        rintro e w2 ⟨rfl, hb2⟩
        have hbb := hb1.trans (hb2.mono hb1.size)
        go_wp2_with fail
        refine (CW.out _ (HEN.out _ hbb)).mono ?_
        rintro e w3 ⟨rfl, hb3⟩
        have hbc := hbb.trans (hb3.mono hbb.size)
        go_wp2_with fail
        go_ret
        exact ⟨rfl, hbc⟩
      · have CW := Lib.hid (fun (wx : World) (h : Env wx) => words_is (joinB ⟨#[120]⟩ l) (l.length : Int) wx h (by omega) (by rw [HWJ.out.1, ← HR.out]))
        rw [HWJ.out.2.1, HWJ.out.2.2 HR.out.symm] at CW
        generalize joinB ⟨#[120]⟩ l = J at *
        go_wp2_with fail
        refine (CJ.out).mono ?_
        rintro e w2 ⟨rfl, hb2⟩
        have hbb := hb1.trans (hb2.mono hb1.size)
        go_wp2_with fail
        refine (CW.out _ (HEN.out _ hbb)).mono ?_
        rintro e w3 ⟨v3, rfl, hI3, hb3⟩
        have hbc := hbb.trans (hb3.mono hbb.size)
        have CS := Lib.hid (same_self _ _ l w3 ((hI1.below hb2).below hb3) hI3)
        obtain ⟨ao3, cap3, rfl, _⟩ := hI3.form
        clear hI3
        go_wp2_with fail
        refine (CS.out).mono ?_
        rintro e w4 ⟨rfl, hb4⟩
        have hbd := hbc.trans (hb4.mono hbc.size)
        go_wp2_with fail
        go_ret
        exact ⟨rfl, hbd⟩
end Go.Proofs.YtjfegknokombgaaDoor
