/- Walks: the reference's Bit and Has, Of of both sides. Conditions: a set is a number from 0 to 2^64 - 1; a slice's cells are known. -/
import Derived.Test.YtjfegknokombgaaDoorSetB
import Derived.Test.YtjfegknokombgaaDoorSlc
namespace Go.Proofs.YtjfegknokombgaaDoor
set_option maxRecDepth 100000
open Go.RowKit

theorem half_step (s k : Nat) : ((s / 2 ^ k : Nat) : Int) / 2 = ((s / 2 ^ (k + 1) : Nat) : Int) := by
  rw [Nat.pow_succ, ← Nat.div_div_eq_div_mul]; omega
theorem half_end (s k : Nat) (hk : k < 64) : (((s / 2 ^ k : Nat) : Int) % 2 == 1) = hasB s (k : Int) := by
  unfold hasB
  have h : 0 ≤ (k : Int) ∧ (k : Int) < 64 := by omega
  rw [Nat.testBit_eq_decide_div_mod_eq, Int.toNat_natCast]
  generalize s / 2 ^ k = c
  rw [Bool.eq_iff_iff]
  simp [h]
  omega
theorem half_lt (s k : Nat) : s / 2 ^ k ≤ s := Nat.div_le_self _ _
set_option maxHeartbeats 400000 in
theorem rbit_in (s n : Nat) (w : World) (hs : IsSet s) (hn : n < 64) :
    Calls Tryd.prog 53 #[.int .u64 (s : Int), .int .i64 (n : Int)] w fun e w' => e = .returned (.bool (hasB s n)) ∧ w = w' := by
  have hs' : s < 18446744073709551616 := hs
  go_enter Tryd.func53, Tryd.ntmps53
  go_wp2
  go_loop [0, 5] (fun v i => ∃ k : Nat, k ≤ n ∧ i = .int .i64 k ∧ v = .int .u64 ((s / 2 ^ k : Nat) : Int)) (fun _ i => n - (intOf i).toNat)
  case atStart => exact ⟨0, Nat.zero_le _, rfl, by simp⟩
  case round =>
    obtain ⟨k, hk, rfl, rfl⟩ := hrel
    have hl := half_lt s k
    have h1 := half_step s k
    have H1 := Lib.hid h1; clear h1
    have H2 : Hid (k = n → (((s / 2 ^ k : Nat) : Int) % 2 == 1) = hasB s (n : Int)) := Lib.hid (fun h => by rw [← h]; exact half_end s k (by omega))
    generalize s / 2 ^ k = c at *
    by_cases hlt : k < n
    · go_wp2
      go_round
      case rel => exact ⟨k + 1, by omega, by go_num, by rw [← H1.out]⟩
      case measure => simp [intOf]; omega
    · go_wp2
      go_ret
      exact ⟨ret_b (H2.out (by omega)), rfl⟩
theorem rbit_any (s : Nat) (n : Int) (w : World) (hs : IsSet s) :
    Calls Tryd.prog 53 #[.int .u64 (s : Int), .int .i64 n] w fun e w' => e = .returned (.bool (hasB s n)) ∧ w = w' := by
  by_cases h : 0 ≤ n ∧ n < 64
  · obtain ⟨k, rfl⟩ := Int.eq_ofNat_of_zero_le h.1
    exact rbit_in s k w hs (by omega)
  · have e : false = hasB s n := by unfold hasB; simp [h]
    have E := Lib.hid e; clear e
    by_cases h0 : n < 0
    all_goals
      go_enter Tryd.func53, Tryd.ntmps53
      go_wp2
      go_ret
      exact ⟨ret_b E.out, rfl⟩

/-- Is a number among some? -/
def hasL (l : List Int) (n : Int) : Bool := l.any fun x => x == n
theorem hasL_succ (l : List Int) (n : Int) (k : Nat) (hk : k < l.length) : hasL (l.take (k + 1)) n = (hasL (l.take k) n || l[k] == n) := by
  unfold hasL
  rw [List.take_succ_eq_append_getElem hk, List.any_append]; simp
theorem hasL_hit (l : List Int) (n : Int) (k : Nat) (hk : k < l.length) (h : l[k] = n) : true = hasL l n := by
  unfold hasL
  symm
  rw [List.any_eq_true]
  exact ⟨l[k], List.getElem_mem hk, by simp [h]⟩
end Go.Proofs.YtjfegknokombgaaDoor
