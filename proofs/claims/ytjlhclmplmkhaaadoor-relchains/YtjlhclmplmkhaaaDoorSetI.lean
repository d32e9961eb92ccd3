/- The walks of the statements on lists of numbers, and there and back: they answer true. Condition: First's library table lies where it is laid; slices' cells are known. -/
import Derived.Test.YtjlhclmplmkhaaaDoorSetH
namespace Go.Proofs.YtjlhclmplmkhaaaDoor
open Go.RowKit

theorem ofL_lst (s : Nat) (hs : IsSet s) : setL ((lst s).map Int.ofNat) = s := by
  rw [setL_eq]
  apply set_ext (isSet_ofL _) hs
  intro i hi
  rw [testBit_ofL, hasL_lst]
  unfold hasB
  have h3 : 0 ≤ (i : Int) ∧ (i : Int) < 64 := by omega
  simp [hi, h3]
theorem has_fst {c : Nat} (hne : lst c ≠ []) : hasB c (fst c : Int) = true := by
  have h := mem_lst.1 (fst_mem hne)
  unfold hasB
  have h3 : 0 ≤ (fst c : Int) ∧ (fst c : Int) < 64 := by omega
  simp [h3, h.2]
theorem lst_wo_len {c : Nat} (hne : lst c ≠ []) : (lst (woS c (fst c : Int))).length + 1 = (lst c).length := by
  have := congrArg List.length (lst_cons hne)
  simp at this; omega
set_option maxHeartbeats 1000000 in
theorem back_walk (s : Nat) (w : World) (hs : IsSet s) (ht : Tab w) :
    Calls Tryd.prog 5 #[.int .u64 (s : Int)] w fun e w' => e = .returned (.bool true) ∧ Below w.heap.size w w' := by
  have hg := ht.pos
  have HT : Hid (∀ wx, Below w.heap.size w wx → Tab wx) := Lib.hid (fun wx hb => ht.below hb hg)
  clear ht
  go_enter Tryd.func5, Tryd.ntmps5
  go_wp2_with fail
  refine (speaks1_any w (HT.out _ (Below.refl _ _))).mono ?_
  rintro e w1 ⟨rfl, hb1⟩
  go_wp2_with fail
  refine (list_any s w1 hs (HT.out _ hb1)).mono ?_
  rintro e w2 ⟨v, rfl, hown, hb⟩
  have hb2 : Below w.heap.size w w2 := hb1.trans (hb.mono hb1.size)
  have C : Hid (Calls Tryd.prog 22 #[v] w2 fun e w' => e = .returned (.int .u64 (s : Int)) ∧ w2 = w') :=
    Lib.hid (by have h := of_any v _ w2 (Ints.of_nats hown); rwa [ofL_lst s hs] at h)
  clear hown hb hb1
  go_wp2_with fail
  refine (C.out).mono ?_
  rintro e w' ⟨rfl, rfl⟩
  have hle : (lst s).length ≤ 64 := lstTo_len s 64
  go_wp2_with (go_at_call 15; refine (count_any s _ hs).mono ?_; rintro e w' ⟨rfl, rfl⟩)
  go_loop [3, 17] (fun v i => ∃ (k c : Nat), k ≤ (lst s).length ∧ i = .int .i64 k ∧ IsSet c ∧ v = .int .u64 (c : Int) ∧ (lst c).length + k ≤ (lst s).length ∧ (lst s).length ≤ (lst c).length + k)
    (fun _ i => (lst s).length - (intOf i).toNat)
  case atStart => exact ⟨0, s, by omega, rfl, hs, rfl, by omega, by omega⟩
  case round =>
    obtain ⟨k, c, hk, rfl, hc, rfl, h1, h2⟩ := hrel
    by_cases hlt : k < (lst s).length
    · have hne : lst c ≠ [] := by intro e; rw [e] at h2; simp at h2; omega
      have hwo := isSet_woS (n := (fst c : Int)) hc
      have HD := Lib.hid (lst_wo_len hne)
      have hfl := fst_lt hne
      have CH : Hid (∀ wx, Calls Tryd.prog 13 #[.int .u64 (c : Int), .int .i64 (fst c : Int)] wx fun e w' => e = .returned (.bool true) ∧ wx = w') :=
        Lib.hid (fun wx => by have h := has_any c (fst c : Int) wx hc; rwa [has_fst hne] at h)
      clear hne
      go_wp2_with (first
        | (go_at_call 16; refine (first_any c _ hc (HT.out _ hb2)).mono ?_; rintro e w' ⟨rfl, rfl⟩)
        | (go_at_call 13; refine (CH.out _).mono ?_; rintro e w' ⟨rfl, rfl⟩)
        | (go_at_call 21; refine (wo_any c _ _ hc).mono ?_; rintro e w' ⟨rfl, rfl⟩))
      go_round
      case rel => exact ⟨k + 1, woS c (fst c : Int), by omega, by go_num, hwo, rfl, by have := HD.out; omega, by have := HD.out; omega⟩
      case measure => simp [intOf]; omega
    · have hz : c = 0 := lst_nil hc (List.eq_nil_of_length_eq_zero (by omega))
      subst hz
      go_wp2
      go_ret
      exact ⟨rfl, hb2⟩

/-- Are the first k numbers, so far as they may be in a set, among others? -/
def wiTo (l m : List Int) (k : Nat) : Bool := (l.take k).all fun x => !decide (0 ≤ x ∧ x < 64) || hasL m x
theorem wiTo_succ (l m : List Int) (k : Nat) (hk : k < l.length) : wiTo l m (k + 1) = (wiTo l m k && (!decide (0 ≤ l[k] ∧ l[k] < 64) || hasL m l[k])) := by
  unfold wiTo
  rw [List.take_succ_eq_append_getElem hk, List.all_append]; simp
theorem inB_iff {s t : Nat} (hs : IsSet s) : inB s t = true ↔ ∀ i, i < 64 → s.testBit i = true → t.testBit i = true := by
  unfold inB
  rw [beq_iff_eq]
  constructor
  · intro h i _ hi
    have := congrArg (fun x => Nat.testBit x i) h
    simp [Nat.testBit_xor, Nat.testBit_and, hi] at this
    exact this
  · intro h
    apply set_ext (isSet_xor hs (isSet_and hs)) (by unfold IsSet; omega)
    intro i hi
    rw [Nat.testBit_xor, Nat.testBit_and]
    cases hb : s.testBit i
    · simp
    · simp [h i hi hb]
theorem hasL_iff {l : List Int} {n : Int} : hasL l n = true ↔ n ∈ l := by unfold hasL; simp
theorem within_eq (l m : List Int) : inB (setL l) (setL m) = wiTo l m l.length := by
  rw [Bool.eq_iff_iff, inB_iff (isSet_setL l)]
  unfold wiTo
  rw [List.take_length, List.all_eq_true]
  constructor
  · intro h x hx
    by_cases hr : 0 ≤ x ∧ x < 64
    · have hi := h x.toNat (by omega)
      rw [setL_eq, setL_eq, testBit_ofL, testBit_ofL] at hi
      have hlt : x.toNat < 64 := by omega
      have e : ((x.toNat : Nat) : Int) = x := by omega
      rw [e] at hi
      simp only [hlt, decide_true, Bool.true_and] at hi
      simp [hi (hasL_iff.2 hx)]
    · simp [hr]
  · intro h i hi hb
    rw [setL_eq, testBit_ofL] at hb ⊢
    simp only [hi, decide_true, Bool.true_and] at hb ⊢
    have := h (i : Int) (hasL_iff.1 hb)
    have hr : 0 ≤ (i : Int) ∧ (i : Int) < 64 := by omega
    simpa [hr] using this
theorem within_or (s t : Nat) (hs : IsSet s) : inB s (s ||| t) = true := by
  rw [inB_iff hs]
  intro i _ h
  rw [Nat.testBit_or, h]; rfl
theorem below_eq (n : Int) : ofL ((List.range (min 64 n.toNat)).map Int.ofNat) = belowS n := by
  have hb : IsSet (belowS n) := by
    unfold belowS IsSet
    split
    · omega
    · split
      · omega
      · have : 2 ^ n.toNat ≤ 2 ^ 63 := Nat.pow_le_pow_right (by omega) (by omega)
        omega
  apply set_ext (isSet_ofL _) hb
  intro i hi
  rw [testBit_ofL]
  have e : hasL ((List.range (min 64 n.toNat)).map Int.ofNat) (i : Int) = decide ((i : Int) < n) := by
    rw [Bool.eq_iff_iff, hasL_iff, decide_eq_true_iff]
    constructor
    · intro h
      obtain ⟨a, ha, he⟩ := List.mem_map.1 h
      have h1 := List.mem_range.1 ha
      have h2 : (a : Int) = (i : Int) := he
      omega
    · intro h
      exact List.mem_map.2 ⟨i, List.mem_range.2 (by omega), rfl⟩
  rw [e]
  unfold belowS
  by_cases h0 : n ≤ 0
  · rw [if_pos h0]
    have : ¬ (i : Int) < n := by omega
    simp [this]
  rw [if_neg h0]
  by_cases h1 : 64 ≤ n
  · rw [if_pos h1, show (18446744073709551615 : Nat) = 2 ^ 64 - 1 from by decide, Nat.testBit_two_pow_sub_one]
    have : (i : Int) < n := by omega
    simp [this]
  · rw [if_neg h1, Nat.testBit_two_pow_sub_one, Bool.eq_iff_iff]
    simp; omega
set_option maxHeartbeats 1000000 in
theorem lists_walk (va vb : Value) (l m : List Int) (n : Int) (w : World) (ht : Tab w) (ha : Ints w va l) (hb : Ints w vb m) :
    Calls Tryd.prog 4 #[va, vb, .int .i64 n] w fun e w' => e = .returned (.bool true) ∧ Below w.heap.size w w' := by
  obtain ⟨ao, cap, rfl, hal⟩ := ha.form
  obtain ⟨bo, bap, rfl, hbl⟩ := hb.form
  by_cases hbig : 200 < l.length ∨ 200 < m.length
  · go_enter Tryd.func4, Tryd.ntmps4
    go_wp2_with fail
    refine (speaks1_any w ht).mono ?_
    rintro e w1 ⟨rfl, hb1⟩
    by_cases h1 : 200 < l.length
    · go_wp2_with fail
      go_ret
      exact ⟨rfl, hb1⟩
    · have h2 : 200 < m.length := by omega
      go_wp2_with fail
      go_ret
      exact ⟨rfl, hb1⟩
  have hl200 : l.length ≤ 200 := by omega
  have hm200 : m.length ≤ 200 := by omega
  clear hbig
  go_enter Tryd.func4, Tryd.ntmps4
  go_wp2_with fail
  refine (speaks1_any w ht).mono ?_
  rintro e w1 ⟨rfl, hb1⟩
  have ha1 := ha.below hb1
  have hb1' := hb.below hb1
  clear ha hb ht
  go_wp2_with fail
  refine (of_any _ l w1 ha1).mono ?_
  rintro e w' ⟨rfl, rfl⟩
  go_wp2_with fail
  refine (of_any _ m w1 hb1').mono ?_
  rintro e w' ⟨rfl, rfl⟩
  go_wp2_with fail
  have CA : Hid (∀ wx, Below w1.heap.size w1 wx → Calls Tryd.prog 20 #[.slice ao l.length cap] wx fun e w' => e = .returned (.int .u64 ((setL l : Nat) : Int)) ∧ wx = w') :=
    Lib.hid (fun wx hbx => by rw [setL_eq]; exact rof_any _ l wx (ha1.below hbx))
  have CW : Hid (∀ wx, Calls Tryd.prog 24 #[.int .u64 ((setL l : Nat) : Int), .int .u64 ((setL m : Nat) : Int)] wx fun e w' => e = .returned (.bool (wiTo l m l.length)) ∧ wx = w') :=
    Lib.hid (fun wx => by rw [← within_eq]; exact within_any _ _ wx (isSet_setL l) (isSet_setL m))
  have CO : Hid (∀ wx, Calls Tryd.prog 24 #[.int .u64 ((setL l : Nat) : Int), .int .u64 ((setL l ||| setL m : Nat) : Int)] wx fun e w' => e = .returned (.bool true) ∧ wx = w') :=
    Lib.hid (fun wx => by have h := within_any _ _ wx (isSet_setL l) (isSet_or (isSet_setL l) (isSet_setL m)); rwa [within_or _ _ (isSet_setL l)] at h)
  have HOR : Hid (Go.bits .or .u64 ((setL l : Nat) : Int) ((setL m : Nat) : Int) = ((setL l ||| setL m : Nat) : Int)) := Lib.hid (Go.bits_or_u64_nat _ _ (isSet_setL l) (isSet_setL m))
  generalize setL l = sl at *
  generalize setL m = sm at *
  go_loop [9, 28] (fun v i => ∃ k : Nat, k ≤ l.length ∧ i = .int .i64 k ∧ v = .bool (wiTo l m k)) (fun _ i => l.length - (intOf i).toNat)
  case atStart => exact ⟨0, by omega, rfl, by simp [wiTo]⟩
  case round =>
    obtain ⟨k, hk, rfl, rfl⟩ := hrel
    by_cases hlt : k < l.length
    · obtain ⟨p, off, rfl, hc⟩ := ha1.at hlt
      have HS := Lib.hid (wiTo_succ l m k hlt)
      generalize l[k] = x at *
      by_cases hr : 0 ≤ x ∧ x < 64
      · have CH := rhas_any _ m x w1 hb1'
        have HR := Lib.hid hr
        obtain ⟨hr0, hr1⟩ := hr
        cases hh : hasL m x
        all_goals
          rw [hh] at CH
          have CH' := Lib.hid CH
          clear CH
          have HE := Lib.hid hh
          clear hh
          go_wp2_with (go_at_call 23; refine (CH'.out).mono ?_; rintro e w' ⟨rfl, rfl⟩)
          go_round
          case rel => exact ⟨k + 1, by omega, by go_num, by rw [HS.out, HE.out]; simp [HR.out]⟩
          case measure => simp [intOf]; omega
      · have HR := Lib.hid hr
        by_cases hx0 : 0 ≤ x
        · have hx1 : 64 ≤ x := by omega
          clear hr
          go_wp2_with fail
          go_round
          case rel => exact ⟨k + 1, by omega, by go_num, by rw [HS.out]; simp [HR.out]⟩
          case measure => simp [intOf]; omega
        · clear hr
          go_wp2_with fail
          go_round
          case rel => exact ⟨k + 1, by omega, by go_num, by rw [HS.out]; simp [HR.out]⟩
          case measure => simp [intOf]; omega
    · have hkl : k = l.length := by omega
      subst hkl
      go_wp2_with fail
      refine (CA.out _ (Below.refl _ _)).mono ?_
      rintro e w' ⟨rfl, rfl⟩
      go_wp2_with fail
      refine (CW.out _).mono ?_
      rintro e w' ⟨rfl, rfl⟩
      have HB : Hid (∀ (v : Value) (wx : World), Ints wx v ((List.range (min 64 n.toNat)).map Int.ofNat) → Calls Tryd.prog 20 #[v] wx fun e w' => e = .returned (.int .u64 ((belowS n : Nat) : Int)) ∧ wx = w') :=
        Lib.hid (fun v wx hI => by rw [← below_eq]; exact rof_any v _ wx hI)
      go_wp2_with (go_at_call 25; refine (below_any n _).mono ?_; rintro e w' ⟨rfl, rfl⟩)
      refine (rbelow_any n w1).mono ?_
      rintro e w2 ⟨v2, rfl, hown, hb2⟩
      have hI2 := Lib.hid (Ints.of_nats (l := List.range (min 64 n.toNat)) hown)
      have hbb := hb1.trans (hb2.mono hb1.size)
      clear hown hb2
      go_wp2_with fail
      refine (HB.out _ _ hI2.out).mono ?_
      rintro e w' ⟨rfl, rfl⟩
      have hor := HOR.out
      go_wp2_with (go_at_call 24; refine (CO.out _).mono ?_; rintro e w' ⟨rfl, rfl⟩)
      go_ret
      exact ⟨rfl, hbb⟩
end Go.Proofs.YtjlhclmplmkhaaaDoor
