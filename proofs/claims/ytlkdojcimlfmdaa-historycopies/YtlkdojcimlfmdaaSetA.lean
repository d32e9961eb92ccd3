/- Walks of the set package's smallest functions: bit, Has, With, Without, Within. Conditions: a set is a number from 0 to 2^64 - 1. -/
import Derived.Test.YtlkdojcimlfmdaaProg
import Derived.Test.YtlkdojcimlfmdaaSetM
import Derived.WalkKit
import Derived.WalkSpells
import Derived.WalkLawsBesides
import Derived.Lib.Hide
namespace Go.Proofs.Ytlkdojcimlfmdaa
set_option maxRecDepth 100000
open Go.RowKit

theorem ret_i {k : IntKind} {a b : Int} (h : a = b) : Ending.returned (.int k a) = .returned (.int k b) := by rw [h]
theorem ret_b {a b : Bool} (h : a = b) : Ending.returned (.bool a) = .returned (.bool b) := by rw [h]

set_option maxHeartbeats 400000 in
theorem bit_in (n : Int) (w : World) (h0 : 0 ≤ n) (h1 : n < 64) :
    Calls Try.prog 53 #[.int .i64 n] w fun e w' => e = .returned (.int .u64 ((bt n : Nat) : Int)) ∧ w = w' := by
  go_enter Try.func53, Try.ntmps53
  go_wp2
  go_ret
  exact ⟨ret_i (wrap_two_pow n h0 h1), rfl⟩
set_option maxHeartbeats 400000 in
theorem bit_out (n : Int) (w : World) (h : ¬ (0 ≤ n ∧ n < 64)) :
    Calls Try.prog 53 #[.int .i64 n] w fun e w' => e = .returned (.int .u64 ((bt n : Nat) : Int)) ∧ w = w' := by
  have e := bt_out n h
  have H := Lib.hid e; clear e
  by_cases h0 : n < 0
  all_goals
    go_enter Try.func53, Try.ntmps53
    go_wp2
    go_ret
    exact ⟨ret_i H.out, rfl⟩
theorem bit_any (n : Int) (w : World) :
    Calls Try.prog 53 #[.int .i64 n] w fun e w' => e = .returned (.int .u64 ((bt n : Nat) : Int)) ∧ w = w' := by
  by_cases h : 0 ≤ n ∧ n < 64
  · exact bit_in n w h.1 h.2
  · exact bit_out n w h

set_option maxHeartbeats 400000 in
theorem has_any (s : Nat) (n : Int) (w : World) (hs : IsSet s) :
    Calls Try.prog 16 #[.int .u64 (s : Int), .int .i64 n] w fun e w' => e = .returned (.bool (hasB s n)) ∧ w = w' := by
  go_enter Try.func16, Try.ntmps16
  go_wp2_with (go_at_call 53; refine (bit_any _ _).mono ?_; rintro e w' ⟨rfl, rfl⟩)
  go_ret
  exact ⟨ret_b (bits_has s n hs), rfl⟩
set_option maxHeartbeats 400000 in
theorem with_any (s : Nat) (n : Int) (w : World) (hs : IsSet s) :
    Calls Try.prog 69 #[.int .u64 (s : Int), .int .i64 n] w fun e w' => e = .returned (.int .u64 ((withS s n : Nat) : Int)) ∧ w = w' := by
  go_enter Try.func69, Try.ntmps69
  go_wp2_with (go_at_call 53; refine (bit_any _ _).mono ?_; rintro e w' ⟨rfl, rfl⟩)
  go_ret
  exact ⟨ret_i (bits_with s n hs), rfl⟩
set_option maxHeartbeats 400000 in
theorem wo_any (s : Nat) (n : Int) (w : World) (hs : IsSet s) :
    Calls Try.prog 52 #[.int .u64 (s : Int), .int .i64 n] w fun e w' => e = .returned (.int .u64 ((woS s n : Nat) : Int)) ∧ w = w' := by
  go_enter Try.func52, Try.ntmps52
  go_wp2_with (go_at_call 53; refine (bit_any _ _).mono ?_; rintro e w' ⟨rfl, rfl⟩)
  go_ret
  exact ⟨ret_i (bits_wo s n hs), rfl⟩
end Go.Proofs.Ytlkdojcimlfmdaa
