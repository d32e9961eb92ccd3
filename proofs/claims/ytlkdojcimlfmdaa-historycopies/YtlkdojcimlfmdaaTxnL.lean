/- The walk of which transactions may be. Conditions: a slice's cells are known, and hold operations of ints. -/
import Derived.Test.YtlkdojcimlfmdaaTxnH
namespace Go.Proofs.Ytlkdojcimlfmdaa
set_option maxRecDepth 100000
open Go.RowKit

/-- May there be such a transaction? -/
def mayT (s b c : Int) (l : List OpV) : Bool := decide (0 ≤ s ∧ s < 64 ∧ 0 ≤ b ∧ b < c ∧ c ≤ 2147483647 ∧ 1 ≤ l.length ∧ l.length ≤ 64) && allM l
theorem mayT_no {s b c : Int} {l : List OpV} (h : ¬ (0 ≤ s ∧ s < 64 ∧ 0 ≤ b ∧ b < c ∧ c ≤ 2147483647 ∧ 1 ≤ l.length ∧ l.length ≤ 64)) : mayT s b c l = false := by
  unfold mayT; simp only [h, decide_false, Bool.false_and]
theorem mayT_yes {s b c : Int} {l : List OpV} (h : 0 ≤ s ∧ s < 64 ∧ 0 ≤ b ∧ b < c ∧ c ≤ 2147483647 ∧ 1 ≤ l.length ∧ l.length ≤ 64) : mayT s b c l = allM l := by
  unfold mayT; simp only [h, and_self, decide_true, Bool.true_and]
set_option maxHeartbeats 8000000 in
theorem tright_any (s b c : Int) (va : Value) (l : List OpV) (w : World) (ha : Ops w va l) :
    Calls Try.prog 77 #[.agg #[.int .i64 s, .int .i64 b, .int .i64 c, va]] w fun e w' => e = .returned (.bool (mayT s b c l)) ∧ Below w.heap.size w w' := by
  obtain ⟨ao, cap, rfl, hal⟩ := ha.form
  have hb0 := (Below.refl w.heap.size w).alloc (Nat.le_refl _) (.cells #[.int .i64 s, .int .i64 b, .int .i64 c, .slice ao l.length cap] 29)
  have NO : Hid (¬ (0 ≤ s ∧ s < 64 ∧ 0 ≤ b ∧ b < c ∧ c ≤ 2147483647 ∧ 1 ≤ l.length ∧ l.length ≤ 64) → false = mayT s b c l) := Lib.hid (fun h => (mayT_no h).symm)
  by_cases d1 : s < 0
  · have H := Lib.hid (NO.out (by omega))
    go_enter Try.func77, Try.ntmps77
    go_wp2_with fail
    go_ret
    exact ⟨ret_b H.out, hb0⟩
  by_cases d2 : (64 : Int) ≤ s
  · have H := Lib.hid (NO.out (by omega))
    go_enter Try.func77, Try.ntmps77
    go_wp2_with fail
    go_ret
    exact ⟨ret_b H.out, hb0⟩
  by_cases d3 : b < 0
  · have H := Lib.hid (NO.out (by omega))
    go_enter Try.func77, Try.ntmps77
    go_wp2_with fail
    go_ret
    exact ⟨ret_b H.out, hb0⟩
  by_cases d4 : c ≤ b
  · have H := Lib.hid (NO.out (by omega))
    go_enter Try.func77, Try.ntmps77
    go_wp2_with fail
    go_ret
    exact ⟨ret_b H.out, hb0⟩
  by_cases d5 : (2147483647 : Int) < c
  · have H := Lib.hid (NO.out (by omega))
    go_enter Try.func77, Try.ntmps77
    go_wp2_with fail
    go_ret
    exact ⟨ret_b H.out, hb0⟩
  by_cases d6 : l.length = 0
  · have H := Lib.hid (NO.out (by omega))
    rw [d6]
    rw [d6] at hb0
    go_enter Try.func77, Try.ntmps77
    go_wp2_with fail
    go_ret
    exact ⟨ret_b H.out, hb0⟩
  have d6' : ((l.length : Int) == 0) = false := by simp; exact fun h => d6 (by rw [h]; rfl)
  by_cases d7 : 64 < l.length
  · have H := Lib.hid (NO.out (by omega))
    have d7' : (64 : Int) < (l.length : Int) := by omega
    go_enter Try.func77, Try.ntmps77
    go_wp2_with fail
    go_ret
    exact ⟨ret_b H.out, hb0⟩
  have d7' : ¬ (64 : Int) < (l.length : Int) := by omega
  have YES : Hid (mayT s b c l = allM l) := Lib.hid (mayT_yes (by omega))
  clear NO d6
  go_enter Try.func77, Try.ntmps77
  go_wp2_with fail
  clear d1 d2 d3 d4 d5
  go_loopw [41] (fun i wr => ∃ k : Nat, k ≤ l.length ∧ i = .int .i64 k ∧ allM (l.take k) = true ∧ Below w.heap.size w wr) (fun i _ => l.length - (intOf i).toNat)
  case atStart => exact ⟨0, by omega, rfl, rfl, hb0⟩
  case round =>
    obtain ⟨k, hk, rfl, hal2, hb⟩ := hrel
    have HA := Lib.hid hal2
    clear hal2 hb0
    by_cases hlt : k < l.length
    · have hki : (k : Int) < (l.length : Int) := by omega
      obtain ⟨g, o, hao, c0, c1, c2⟩ := (ha.below hb).at hlt
      cases hao
      have HS := Lib.hid (allM_succ l k hlt)
      have HNO := Lib.hid (allM_no l k hlt)
      generalize l[k] = x at *
      obtain ⟨xw, xk, xv⟩ := x
      try simp only at c0 c1 c2
      have hbb := hb.alloc hb.size (.cells #[.bool xw, .int .i64 xk, .int .i64 xv] 31)
      have CR := Lib.hid (right_any xw xk xv (wr.alloc (.cells #[.bool xw, .int .i64 xk, .int .i64 xv] 31)))
      generalize mayO ⟨xw, xk, xv⟩ = q at *
      go_wp2_with fail
      refine (CR.out).mono ?_
      rintro e w1 ⟨rfl, hb1⟩
      have hb2 := below_then hbb hb1
      clear CR
      cases q
      · have H : Hid (false = mayT s b c l) := Lib.hid (by rw [YES.out, HNO.out rfl])
        go_wp2_with fail
        go_ret
        exact ⟨ret_b H.out, hb2⟩
      · have H : Hid (allM (l.take (k + 1)) = true) := Lib.hid (by rw [HS.out, HA.out]; rfl)
        go_wp2_with fail
        go_roundw
        case rel => exact ⟨k + 1, by omega, by go_num, H.out, hb2⟩
        case measure => simp [intOf]; omega
    · have hkl : k = l.length := by omega
      have H : Hid (true = mayT s b c l) := Lib.hid (by have := HA.out; rw [hkl, List.take_length] at this; rw [YES.out, this])
      go_wp2_with fail
      go_ret
      exact ⟨ret_b H.out, hb⟩
end Go.Proofs.Ytlkdojcimlfmdaa
