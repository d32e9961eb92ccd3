/- The walks of fuel's times, Level, All, and of the reference's Product, Level; how often one tries. Conditions: numbers of work are no more than 2^62. -/
import Derived.Test.YtfancjmhdbaoeaaSetA
import Derived.Test.YtfancjmhdbaoeaaFueA
namespace Go.Proofs.Ytfancjmhdbaoeaa
set_option maxRecDepth 100000
open Go.RowKit

theorem tdiv_nat (b : Nat) : (4611686018427387904 : Int).tdiv (b : Int) = ((4611686018427387904 / b : Nat) : Int) := rfl
set_option maxHeartbeats 1000000 in
theorem times_any (a b : Nat) (w : World) (hb : 0 < b) :
    Calls Try.prog 16 #[.int .i64 (a : Int), .int .i64 (b : Int)] w fun e w' => e = .returned (.int .i64 ((timesN a b : Nat) : Int)) ∧ w = w' := by
  have hne : ¬ (b : Int) = 0 := by omega
  have hbi : (0 : Int) < (b : Int) := by omega
  have hq : 4611686018427387904 / b ≤ 4611686018427387904 := Nat.div_le_self _ _
  have HD := tdiv_nat b
  have HX := Lib.hid (times_big (a := a) hb)
  have HY := Lib.hid (times_small (a := a) hb)
  generalize 4611686018427387904 / b = q at *
  by_cases h : q < a
  · have HV := Lib.hid (HX.out h)
    have hi : (q : Int) < (a : Int) := by omega
    clear HY h
    go_enter Try.func16, Try.ntmps16
    go_wp2_with fail
    go_ret
    exact ⟨ret_i (by rw [HV.out]; rfl), rfl⟩
  · have HV := Lib.hid (HY.out h)
    have hp : a * b ≤ 4611686018427387904 := HV.out.2
    have hpi : (a : Int) * (b : Int) ≤ 4611686018427387904 := by rw [← Int.natCast_mul]; omega
    have hp0 : (0 : Int) ≤ (a : Int) * (b : Int) := by rw [← Int.natCast_mul]; omega
    have hi : ¬ (q : Int) < (a : Int) := by omega
    clear HX h hp
    go_enter Try.func16, Try.ntmps16
    go_wp2_with fail
    go_ret
    exact ⟨ret_i (by rw [HV.out.1, Int.natCast_mul]), rfl⟩
set_option maxHeartbeats 1000000 in
theorem flevel_any (n : Int) (w : World) :
    Calls Try.prog 8 #[.int .i64 n] w fun e w' => e = .returned (.int .i64 ((levZ n : Nat) : Int)) ∧ w = w' := by
  have HE : Hid (∀ k : Nat, k ≤ n.toNat → (n < (k : Int) + 1 ∨ 4611686018427387904 ≤ levN k) → levN k = levZ n) := Lib.hid (fun k hk h => by
    unfold levZ
    rcases h with h | h
    · rw [show n.toNat = k by omega]
    · rw [lev_full hk h]; exact Nat.le_antisymm (lev_le k) h)
  have HM : Hid (∀ k : Nat, 4611686018427387904 ≤ levN k ∨ k < 64) := Lib.hid (fun k => by
    rcases Nat.lt_or_ge k 64 with h | h
    · exact .inr h
    · exact .inl (Nat.le_of_eq (lev_most h).symm))
  have CT := Lib.hid (fun a b w hb => times_any a b w hb)
  go_enter Try.func8, Try.ntmps8
  go_wp2_with fail
  go_loop [3, 4] (fun x i => ∃ k j : Nat, k ≤ n.toNat ∧ Hid (j = k + 1) ∧ x = .int .i64 ((levN k : Nat) : Int) ∧ i = .int .i64 (j : Int)) (fun _ i => (n + 1 - intOf i).toNat)
  case atStart => exact ⟨0, 1, by omega, Lib.hid rfl, rfl, rfl⟩
  case round =>
    obtain ⟨k, j, hk, HJ, rfl, rfl⟩ := hrel
    have hle := lev_le k
    have hm := HM.out k
    have HS : Hid (timesN (levN k) j = levN (k + 1)) := Lib.hid (by rw [HJ.out]; rfl)
    have HR : Hid ((n < (j : Int) ∨ 4611686018427387904 ≤ levN k) → levN k = levZ n) := Lib.hid (fun h => HE.out k hk (by rw [HJ.out] at h; exact h.imp (fun q => by omega) id))
    have HN : Hid ((j : Int) ≤ n → k + 1 ≤ n.toNat) := Lib.hid (fun h => by have := HJ.out; omega)
    have hj : 0 < j := by have := HJ.out; omega
    have hj65 : 4611686018427387904 ≤ levN k ∨ (j : Int) + 1 ≤ 9223372036854775807 := by have := HJ.out; omega
    have CX := Lib.hid (fun wx => CT.out (levN k) j wx hj)
    clear hm hk
    generalize levN k = x at *
    by_cases h1 : (j : Int) ≤ n
    · by_cases h2 : x < 4611686018427387904
      · have h3 : (x : Int) < 4611686018427387904 := by omega
        have hj2 : (j : Int) + 1 ≤ 9223372036854775807 := by omega
        have HN2 := Lib.hid (HN.out h1)
        rw [HS.out] at CX
        clear h2 hj65 hle hj
        generalize hy : levN (k + 1) = y at *
        have HY := Lib.hid hy
        clear hy
        go_wp2_with (refine (CX.out _).mono ?_; rintro e w' ⟨rfl, rfl⟩)
        go_round
        case rel => exact ⟨k + 1, j + 1, HN2.out, Lib.hid (by rw [HJ.out]), by rw [HY.out], rfl⟩
        case measure => simp only [intOf]; omega
      · have HQ := Lib.hid (HR.out (.inr (by omega)))
        have h3 : ¬ (x : Int) < 4611686018427387904 := by omega
        clear h2 hj65 hle
        go_wp2_with fail
        go_ret
        exact ⟨ret_i (by rw [HQ.out]), rfl⟩
    · have HQ := Lib.hid (HR.out (.inl (by omega)))
      clear hj65 hle
      go_wp2_with fail
      go_ret
      exact ⟨ret_i (by rw [HQ.out]), rfl⟩
set_option maxHeartbeats 1000000 in
theorem fall_any (n : Int) (w : World) :
    Calls Try.prog 9 #[.int .i64 n] w fun e w' => e = .returned (.int .i64 ((timesN (levZ n) 12 : Nat) : Int)) ∧ w = w' := by
  have HV : Hid (timesN 12 (levZ n) = timesN (levZ n) 12) := Lib.hid (by unfold timesN; rw [Nat.mul_comm])
  have C1 := Lib.hid (flevel_any n w)
  have C2 := Lib.hid (times_any 12 (levZ n) w (lev_pos _))
  generalize levZ n = x at *
  rw [HV.out] at C2
  go_enter Try.func9, Try.ntmps9
  go_wp2_with (first | (go_at_call 8; refine C1.out.mono ?_; rintro e w' ⟨rfl, rfl⟩) | (go_at_call 16; refine C2.out.mono ?_; rintro e w' ⟨rfl, rfl⟩))
  go_ret
  exact ⟨rfl, rfl⟩
set_option maxHeartbeats 1000000 in
theorem rprod_any (a b : Nat) (w : World) (ha : a ≤ 4611686018427387904) (hb : b ≤ 4611686018427387904) :
    Calls Try.prog 10 #[.int .i64 (a : Int), .int .i64 (b : Int)] w fun e w' => e = .returned (.int .i64 ((timesN a b : Nat) : Int)) ∧ w = w' := by
  have HB : Hid (∀ k, k < b → 4611686018427387904 - a < k * a → timesN a b = 4611686018427387904) := Lib.hid (fun k hk h => times_add h ha hk)
  have HE : Hid (b * a ≤ 4611686018427387904 → timesN a b = b * a) := Lib.hid (fun h => by unfold timesN; rw [Nat.mul_comm a b]; exact Nat.min_eq_left h)
  go_enter Try.func10, Try.ntmps10
  go_wp2_with fail
  go_loop [5, 6] (fun x i => ∃ k y : Nat, k ≤ b ∧ y ≤ 4611686018427387904 ∧ Hid (y = k * a) ∧ x = .int .i64 (y : Int) ∧ i = .int .i64 (k : Int)) (fun _ i => b - (intOf i).toNat)
  case atStart => exact ⟨0, 0, by omega, by omega, Lib.hid (by simp), rfl, rfl⟩
  case round =>
    obtain ⟨k, y, hk, hy, HY, rfl, rfl⟩ := hrel
    by_cases h1 : k < b
    · have h1i : (k : Int) < (b : Int) := by omega
      by_cases h2 : 4611686018427387904 - a < y
      · have h2i : (4611686018427387904 : Int) - (a : Int) < (y : Int) := by omega
        have HV := Lib.hid (HB.out k h1 (by rw [← HY.out]; exact h2))
        clear h2
        go_wp2_with fail
        go_ret
        exact ⟨ret_i (by rw [HV.out]; rfl), rfl⟩
      · have h2i : ¬ (4611686018427387904 : Int) - (a : Int) < (y : Int) := by omega
        have HS : Hid (y + a = (k + 1) * a) := Lib.hid (by rw [Nat.succ_mul, HY.out])
        clear h2
        go_wp2_with fail
        go_round
        case rel => exact ⟨k + 1, y + a, by omega, by omega, HS, rfl, rfl⟩
        case measure => simp only [intOf]; omega
    · have h1i : ¬ (k : Int) < (b : Int) := by omega
      have HV : Hid (timesN a b = y) := Lib.hid (by have e : k = b := by omega
                                                    rw [HE.out (by rw [← e, ← HY.out]; exact hy), ← e, HY.out])
      clear h1
      go_wp2_with fail
      go_ret
      exact ⟨ret_i (by rw [HV.out]), rfl⟩
set_option maxHeartbeats 1000000 in
theorem rlevel_any (n : Int) (w : World) :
    Calls Try.prog 7 #[.int .i64 n] w fun e w' => e = .returned (.int .i64 ((levZ n : Nat) : Int)) ∧ w = w' := by
  have HE : Hid (∀ k : Nat, k ≤ n.toNat → (n < (k : Int) + 1 ∨ 64 ≤ k) → levN k = levZ n) := Lib.hid (fun k hk h => by
    unfold levZ
    rcases h with h | h
    · rw [show n.toNat = k by omega]
    · rw [lev_most h, lev_most (by omega)])
  have CT := Lib.hid (fun a b w ha hb => rprod_any a b w ha hb)
  go_enter Try.func7, Try.ntmps7
  go_wp2_with fail
  go_loop [3, 4] (fun x i => ∃ k j : Nat, k ≤ n.toNat ∧ k ≤ 64 ∧ Hid (j = k + 1) ∧ x = .int .i64 ((levN k : Nat) : Int) ∧ i = .int .i64 (j : Int)) (fun _ i => (n + 1 - intOf i).toNat)
  case atStart => exact ⟨0, 1, by omega, by omega, Lib.hid rfl, rfl, rfl⟩
  case round =>
    obtain ⟨k, j, hk, hk64, HJ, rfl, rfl⟩ := hrel
    have HS : Hid (timesN (levN k) j = levN (k + 1)) := Lib.hid (by rw [HJ.out]; rfl)
    have HR : Hid ((n < (j : Int) ∨ 64 < j) → levN k = levZ n) := Lib.hid (fun h => HE.out k hk (by rw [HJ.out] at h; exact h.imp (fun q => by omega) (fun q => by omega)))
    have HN : Hid ((j : Int) ≤ n → j ≤ 64 → k + 1 ≤ n.toNat ∧ k + 1 ≤ 64) := Lib.hid (fun h h' => by have := HJ.out; omega)
    have hj65 : (j : Int) ≤ 65 := by have := HJ.out; omega
    have CX := Lib.hid (fun wx => CT.out (levN k) j wx (lev_le k) (by omega))
    clear hk hk64
    generalize levN k = x at *
    by_cases h1 : (j : Int) ≤ n
    · by_cases h2 : (j : Int) ≤ 64
      · have HN2 := Lib.hid (HN.out h1 (by omega))
        rw [HS.out] at CX
        generalize hy : levN (k + 1) = y at *
        have HY := Lib.hid hy
        clear hy
        go_wp2_with (refine (CX.out _).mono ?_; rintro e w' ⟨rfl, rfl⟩)
        go_round
        case rel => exact ⟨k + 1, j + 1, HN2.out.1, HN2.out.2, Lib.hid (by rw [HJ.out]), by rw [HY.out], rfl⟩
        case measure => simp only [intOf]; omega
      · have HQ := Lib.hid (HR.out (.inr (by omega)))
        go_wp2_with fail
        go_ret
        exact ⟨ret_i (by rw [HQ.out]), rfl⟩
    · have HQ := Lib.hid (HR.out (.inl (by omega)))
      go_wp2_with fail
      go_ret
      exact ⟨ret_i (by rw [HQ.out]), rfl⟩
set_option maxHeartbeats 1000000 in
theorem tries_any : ∀ (k : Nat) (w : World), k ≤ 8 →
    Calls Try.prog 15 #[.int .i64 (k : Int)] w fun e w' => e = .returned (.int .i64 ((triesN k : Nat) : Int)) ∧ w = w'
  | 0, w, _ => by
    go_enter Try.func15, Try.ntmps15
    go_wp2_with fail
    go_loop [3, 5] (fun x i => x = .int .i64 0 ∧ i = .int .i64 0) (fun _ _ => 0)
    case atStart => exact ⟨rfl, rfl⟩
    case round =>
      obtain ⟨rfl, rfl⟩ := hrel
      go_wp2_with fail
      go_ret
      exact ⟨rfl, rfl⟩
  | k + 1, w, hk => by
    have IH := Lib.hid (fun wx => tries_any k wx (by omega))
    have hle := tries_le k (by omega)
    have HV : Hid (triesN (k + 1) = (k + 1) * (1 + triesN k)) := Lib.hid rfl
    have HB : Hid (∀ y, y ≤ k + 1 → y * (1 + triesN k) ≤ 986409) := Lib.hid (fun y hy => Nat.le_trans (Nat.mul_le_mul (by omega : y ≤ 9) (by omega : 1 + triesN k ≤ 109601)) (by decide))
    have hsub : ((k + 1 : Nat) : Int) - 1 = (k : Int) := by omega
    generalize triesN k = t at *
    generalize hm : k + 1 = m at *
    have HM := Lib.hid hm
    clear hm
    go_enter Try.func15, Try.ntmps15
    go_wp2_with fail
    go_loop [3, 5] (fun x i => ∃ j y : Nat, j ≤ m ∧ y ≤ 986409 ∧ Hid (y = j * (1 + t)) ∧ x = .int .i64 (y : Int) ∧ i = .int .i64 (j : Int)) (fun _ i => m - (intOf i).toNat)
    case atStart => exact ⟨0, 0, by omega, by omega, Lib.hid (by simp), rfl, rfl⟩
    case round =>
      obtain ⟨j, y, hj, hy, HY, rfl, rfl⟩ := hrel
      by_cases h1 : (j : Int) < (m : Int)
      · have HS : Hid (y + (1 + t) = (j + 1) * (1 + t)) := Lib.hid (by rw [Nat.succ_mul, HY.out])
        have HB2 : Hid (y + (1 + t) ≤ 986409) := Lib.hid (by rw [HS.out]; exact HB.out _ (by omega))
        go_wp2_with (refine (IH.out _).mono ?_; rintro e w' ⟨rfl, rfl⟩)
        go_round
        case rel => exact ⟨j + 1, y + (1 + t), by omega, HB2.out, HS, rfl, rfl⟩
        case measure => simp only [intOf]; omega
      · have HQ : Hid (triesN m = y) := Lib.hid (by rw [HV.out, HY.out, show j = m by omega])
        go_wp2_with fail
        go_ret
        exact ⟨ret_i (by rw [HQ.out]), rfl⟩
end Go.Proofs.Ytfancjmhdbaoeaa
