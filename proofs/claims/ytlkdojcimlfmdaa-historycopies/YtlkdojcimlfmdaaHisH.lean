/- Walks of the reference: which operations and transactions may be, how often a value is written, and by whom. Conditions: a slice's cells are known. -/
import Derived.Test.YtlkdojcimlfmdaaHisG
namespace Go.Proofs.Ytlkdojcimlfmdaa
set_option maxRecDepth 100000
open Go.RowKit

set_option maxHeartbeats 4000000 in
theorem mayop_any (wr : Bool) (key val : Int) (w : World) :
    Calls Try.prog 78 #[.agg #[.bool wr, .int .i64 key, .int .i64 val]] w fun e w' => e = .returned (.bool (mayO ⟨wr, key, val⟩)) ∧ Below w.heap.size w w' := by
  have hi : mayO ⟨wr, key, val⟩ = true ↔ (0 ≤ key ∧ key < 64) ∧ (0 ≤ val ∧ val ≤ 2147483647) ∧ (wr = true → val ≠ 0) := mayO_iff ⟨wr, key, val⟩
  have hb := box_below w (.cells #[.bool wr, .int .i64 key, .int .i64 val] 31)
  have NO : Hid (¬ ((0 ≤ key ∧ key < 64) ∧ (0 ≤ val ∧ val ≤ 2147483647) ∧ (wr = true → val ≠ 0)) → false = mayO ⟨wr, key, val⟩) := Lib.hid (fun h => by
    cases hm : mayO ⟨wr, key, val⟩
    · rfl
    · exact absurd (hi.1 hm) h)
  by_cases d1 : key < 0
  · have H := Lib.hid (NO.out (by omega))
    go_enter Try.func78, Try.ntmps78
    go_wp2_with fail
    go_ret
    exact ⟨ret_b H.out, hb⟩
  by_cases d2 : (63 : Int) < key
  · have H := Lib.hid (NO.out (by omega))
    go_enter Try.func78, Try.ntmps78
    go_wp2_with fail
    go_ret
    exact ⟨ret_b H.out, hb⟩
  by_cases d3 : val < 0
  · have H := Lib.hid (NO.out (by omega))
    go_enter Try.func78, Try.ntmps78
    go_wp2_with fail
    go_ret
    exact ⟨ret_b H.out, hb⟩
  by_cases d4 : (2147483647 : Int) < val
  · have H := Lib.hid (NO.out (by omega))
    go_enter Try.func78, Try.ntmps78
    go_wp2_with fail
    go_ret
    exact ⟨ret_b H.out, hb⟩
  cases wr
  · have H : Hid (true = mayO ⟨false, key, val⟩) := Lib.hid (hi.2 ⟨by omega, by omega, fun h => by cases h⟩).symm
    clear hi NO
    go_enter Try.func78, Try.ntmps78
    go_wp2_with fail
    go_ret
    exact ⟨ret_b H.out, hb⟩
  · by_cases d5 : val = 0
    · have H := Lib.hid (NO.out (fun h => h.2.2 rfl d5))
      subst d5
      clear hi NO
      go_enter Try.func78, Try.ntmps78
      go_wp2_with fail
      go_ret
      exact ⟨ret_b H.out, hb⟩
    · have H : Hid (true = mayO ⟨true, key, val⟩) := Lib.hid (hi.2 ⟨by omega, by omega, fun _ => d5⟩).symm
      have d6 : (val != 0) = true := by simpa using d5
      clear hi NO d5
      go_enter Try.func78, Try.ntmps78
      go_wp2_with fail
      go_ret
      exact ⟨ret_b H.out, hb⟩
set_option maxHeartbeats 8000000 in
theorem maytxn_any (s b c : Int) (va : Value) (l : List OpV) (w : World) (ha : Ops w va l) :
    Calls Try.prog 72 #[.agg #[.int .i64 s, .int .i64 b, .int .i64 c, va]] w fun e w' => e = .returned (.bool (mayT s b c l)) ∧ Below w.heap.size w w' := by
  obtain ⟨ao, cap, rfl, hal⟩ := ha.form
  have hb0 := (Below.refl w.heap.size w).alloc (Nat.le_refl _) (.cells #[.int .i64 s, .int .i64 b, .int .i64 c, .slice ao l.length cap] 29)
  have hA0 := At.new w (.cells #[.int .i64 s, .int .i64 b, .int .i64 c, .slice ao l.length cap] 29)
  have NO : Hid (¬ (0 ≤ s ∧ s < 64 ∧ 0 ≤ b ∧ b < c ∧ c ≤ 2147483647 ∧ 1 ≤ l.length ∧ l.length ≤ 64) → false = mayT s b c l) := Lib.hid (fun h => (mayT_no h).symm)
  by_cases d1 : s < 0
  · have H := Lib.hid (NO.out (by omega))
    go_enter Try.func72, Try.ntmps72
    go_wp2_with fail
    go_ret
    exact ⟨ret_b H.out, hb0⟩
  by_cases d2 : (63 : Int) < s
  · have H := Lib.hid (NO.out (by omega))
    go_enter Try.func72, Try.ntmps72
    go_wp2_with fail
    go_ret
    exact ⟨ret_b H.out, hb0⟩
  by_cases d3 : b < 0
  · have H := Lib.hid (NO.out (by omega))
    go_enter Try.func72, Try.ntmps72
    go_wp2_with fail
    go_ret
    exact ⟨ret_b H.out, hb0⟩
  by_cases d4 : c ≤ b
  · have H := Lib.hid (NO.out (by omega))
    go_enter Try.func72, Try.ntmps72
    go_wp2_with fail
    go_ret
    exact ⟨ret_b H.out, hb0⟩
  by_cases d5 : (2147483647 : Int) < c
  · have H := Lib.hid (NO.out (by omega))
    go_enter Try.func72, Try.ntmps72
    go_wp2_with fail
    go_ret
    exact ⟨ret_b H.out, hb0⟩
  by_cases d6 : (l.length : Int) < 1
  · have H := Lib.hid (NO.out (by omega))
    go_enter Try.func72, Try.ntmps72
    go_wp2_with fail
    go_ret
    exact ⟨ret_b H.out, hb0⟩
  by_cases d7 : (64 : Int) < (l.length : Int)
  · have H := Lib.hid (NO.out (by omega))
    go_enter Try.func72, Try.ntmps72
    go_wp2_with fail
    go_ret
    exact ⟨ret_b H.out, hb0⟩
  have YES : Hid (mayT s b c l = allM l) := Lib.hid (mayT_yes (by omega))
  clear NO
  go_enter Try.func72, Try.ntmps72
  go_wp2_with fail
  clear d1 d2 d3 d4 d5 d6 d7
  go_loopw [3] (fun i wr => ∃ k : Nat, k ≤ l.length ∧ i = .int .i64 k ∧ allM (l.take k) = true ∧ At wr w.heap.size (.cells #[.int .i64 s, .int .i64 b, .int .i64 c, .slice ao l.length cap] 29) ∧ Below w.heap.size w wr) (fun i _ => l.length - (intOf i).toNat)
  case atStart => exact ⟨0, by omega, rfl, rfl, hA0, hb0⟩
  case round =>
    obtain ⟨k, hk, rfl, hal2, hA, hb⟩ := hrel
    have HA := Lib.hid hal2
    clear hal2 hb0 hA0
    obtain ⟨q0, q1, q2, q3⟩ := hA.cells4
    by_cases hlt : k < l.length
    · have hki : (k : Int) < (l.length : Int) := by omega
      obtain ⟨g, o, hao, c0, c1, c2⟩ := (ha.below hb).at hlt
      cases hao
      have HS := Lib.hid (allM_succ l k hlt)
      have HNO := Lib.hid (allM_no l k hlt)
      generalize l[k] = x at *
      obtain ⟨xw, xk, xv⟩ := x
      try simp only at c0 c1 c2
      have CR := Lib.hid (mayop_any xw xk xv wr)
      generalize mayO ⟨xw, xk, xv⟩ = q at *
      go_wp2_with fail
      refine (CR.out).mono ?_
      rintro e w1 ⟨rfl, hb1⟩
      have hb2 := below_then hb hb1
      have hA1 := hA.below hb1
      clear CR q0 q1 q2 q3
      cases q
      · have H : Hid (false = mayT s b c l) := Lib.hid (by rw [YES.out, HNO.out rfl])
        go_wp2_with fail
        go_ret
        exact ⟨ret_b H.out, hb2⟩
      · have H : Hid (allM (l.take (k + 1)) = true) := Lib.hid (by rw [HS.out, HA.out]; rfl)
        go_wp2_with fail
        go_roundw
        case rel => exact ⟨k + 1, by omega, by go_num, H.out, hA1, hb2⟩
        case measure => simp [intOf]; omega
    · have hkl : k = l.length := by omega
      have H : Hid (true = mayT s b c l) := Lib.hid (by have := HA.out; rw [hkl, List.take_length] at this; rw [YES.out, this])
      go_wp2_with fail
      go_ret
      exact ⟨ret_b H.out, hb⟩
/-- How often a value is written. -/
def tmO (x : Int) (l : List OpV) : Nat := (wv l).count x
def tmH (x : Int) (h : List TxnV) : Nat := (wvH h).count x
theorem tmO_succ (x : Int) (l : List OpV) (k : Nat) (hk : k < l.length) : tmO x (l.take (k + 1)) = tmO x (l.take k) + (if l[k].wr = true ∧ l[k].val = x then 1 else 0) := by
  unfold tmO
  rw [take_snoc l k hk, wv_snoc, List.count_append]
  cases hw : l[k].wr
  · simp
  · by_cases e : l[k].val = x <;> simp [e]
theorem tmH_succ (x : Int) (h : List TxnV) (k : Nat) (hk : k < h.length) : tmH x (h.take (k + 1)) = tmH x (h.take k) + tmO x h[k].l := by
  unfold tmH tmO; rw [wvH_succ h k hk, List.count_append]
theorem tmO_le (x : Int) (l : List OpV) (k : Nat) : tmO x (l.take k) ≤ k := by
  unfold tmO
  have h1 := List.count_le_length (a := x) (l := wv (l.take k))
  have h2 := wv_len (l.take k)
  rw [List.length_take] at h2
  omega
theorem tmH_le (x : Int) (h : List TxnV) : tmH x h ≤ opsN h := by
  unfold tmH
  have h1 := List.count_le_length (a := x) (l := wvH h)
  have h2 : (wvH h).length ≤ opsN h := by
    unfold wvH opsN
    rw [List.length_flatMap]
    clear h1
    induction h with
    | nil => simp
    | cons t h ih =>
      have := wv_len t.l
      simp only [List.map_cons, List.sum_cons]
      omega
  omega
set_option maxHeartbeats 8000000 in
theorem times_any (va : Value) (h : List TxnV) (x : Int) (w : World) (hT : Txns w va h) (hn : opsN h ≤ 100000) :
    Calls Try.prog 73 #[va, .int .i64 x] w fun e w' => e = .returned (.int .i64 (tmH x h)) ∧ Below w.heap.size w w' := by
  obtain ⟨ao, cap, rfl, hal⟩ := hT.form
  go_enter Try.func73, Try.ntmps73
  go_wp2_with fail
  go_loopw [5, 6] (fun n i wr => ∃ k : Nat, k ≤ h.length ∧ i = .int .i64 k ∧ n = .int .i64 (tmH x (h.take k)) ∧ w = wr) (fun _ i _ => h.length - (intOf i).toNat)
  case atStart => exact ⟨0, by omega, rfl, by simp [tmH, wvH], rfl⟩
  case round =>
    obtain ⟨k, hk, rfl, rfl, rfl⟩ := hrel
    by_cases hlt : k < h.length
    · have hki : (k : Int) < (h.length : Int) := by omega
      obtain ⟨g, o, hao, c0, c1, c2, c3⟩ := hT.at hlt
      cases hao
      have HS := Lib.hid (tmH_succ x h k hlt)
      have hle1 := tmH_le x (h.take k)
      have hle2 := opsN_le h k
      have hle3 := opsN_at h k hlt
      obtain ⟨ai, capi, hv, hli⟩ := (hT.ops hlt).form
      have hO := hT.ops hlt
      rw [hv] at c3 hO
      generalize h[k].l = l at *
      generalize tmH x (h.take k) = m at *
      clear hv c0 c1 c2 hT
      go_wp2_with fail
      go_loopw [5, 7] (fun n i wx => ∃ j : Nat, j ≤ l.length ∧ i = .int .i64 j ∧ n = .int .i64 ((m + tmO x (l.take j) : Nat)) ∧ w = wx) (fun _ i _ => l.length - (intOf i).toNat)
      case atStart => exact ⟨0, by omega, rfl, by simp [tmO, wv], rfl⟩
      case round =>
        obtain ⟨j, hj, rfl, rfl, rfl⟩ := hrel
        have htj := tmO_le x l j
        by_cases hltj : j < l.length
        · have hkj : (j : Int) < (l.length : Int) := by omega
          obtain ⟨g2, o2, hao2, e0, e1, e2⟩ := hO.at hltj
          cases hao2
          have HSJ := Lib.hid (tmO_succ x l j hltj)
          generalize l[j] = y at *
          obtain ⟨yw, yk, yv⟩ := y
          try simp only at e0 e1 e2
          generalize tmO x (l.take j) = n at *
          cases yw with
          | false =>
            have H : Hid (tmO x (l.take (j + 1)) = n) := Lib.hid (by rw [HSJ.out]; simp)
            clear HSJ
            go_wp2_with fail
            go_roundw
            case rel => exact ⟨j + 1, by omega, by go_num, by rw [H.out], by first | rfl | trivial⟩
            case measure => simp [intOf]; omega
          | true =>
            by_cases hx : yv = x
            · have H : Hid (tmO x (l.take (j + 1)) = n + 1) := Lib.hid (by rw [HSJ.out]; simp [hx])
              subst hx
              clear HSJ
              go_wp2_with fail
              go_roundw
              case rel => exact ⟨j + 1, by omega, by go_num, by rw [H.out]; go_num, by first | rfl | trivial⟩
              case measure => simp [intOf]; omega
            · have H : Hid (tmO x (l.take (j + 1)) = n) := Lib.hid (by rw [HSJ.out]; simp [hx])
              have hx' : (yv == x) = false := by simpa using hx
              clear HSJ hx
              go_wp2_with fail
              go_roundw
              case rel => exact ⟨j + 1, by omega, by go_num, by rw [H.out], by first | rfl | trivial⟩
              case measure => simp [intOf]; omega
        · have hj2 : j = l.length := by omega
          subst hj2
          have H : Hid (tmH x (h.take (k + 1)) = m + tmO x (l.take l.length)) := Lib.hid (by rw [HS.out, List.take_length])
          generalize tmO x (l.take l.length) = n at *
          go_wp2_with fail
          go_roundw
          case rel => exact ⟨k + 1, by omega, by go_num, by rw [H.out], by first | rfl | trivial⟩
          case measure => simp [intOf]; omega
    · have hkl : k = h.length := by omega
      subst hkl
      have H : Hid ((tmH x (h.take h.length) : Int) = tmH x h) := Lib.hid (by rw [List.take_length])
      generalize tmH x (h.take h.length) = n at *
      go_wp2_with fail
      go_ret
      exact ⟨ret_int H.out, Below.refl _ _⟩
end Go.Proofs.Ytlkdojcimlfmdaa
