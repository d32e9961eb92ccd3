/- The walk of the reference's Closed. Conditions: what is asked is a number below 64. -/
import Derived.Test.YtadihdkpoeibhaaDoorLevC
namespace Go.Proofs.YtadihdkpoeibhaaDoor
set_option maxRecDepth 100000
open Go.RowKit

def hasI (k : Nat) (t : Int) : Bool := hasT k t.toNat
theorem rl_hasI (k : Nat) (hk : k < 64) (t : Int) (w : World) (ht : 0 < t) (ht2 : t ≤ 32) : Calls Tryd.prog 17 #[.int .i64 k, .int .i64 t] w fun e w' => e = .returned (.bool (hasI k t)) ∧ w = w' := by
  obtain ⟨n, rfl⟩ := Int.eq_ofNat_of_zero_le (Int.le_of_lt ht)
  exact rl_has k n hk (by omega) (by omega) w
def clV (h16 h4 h32 h1 h2 h8 : Bool) : Int :=
  (if h1 || h32 then 1 else 0) + (if h2 || (h4 || h16) then 2 else 0) + (if h4 || h16 then 4 else 0) + (if h8 || h16 then 8 else 0) + (if h16 then 16 else 0) + (if h32 then 32 else 0)
theorem clV_eq : ∀ k : Fin 64, ((clN k.val : Nat) : Int) = clV (hasI k.val 16) (hasI k.val 4) (hasI k.val 32) (hasI k.val 1) (hasI k.val 2) (hasI k.val 8) := by decide +kernel
set_option maxHeartbeats 8000000 in
theorem rl_closed (k : Nat) (hk : k < 64) (w : World) : Calls Tryd.prog 15 #[.int .i64 k] w fun e w' => e = .returned (.int .i64 (clN k)) ∧ w = w' := by
  have H := clV_eq ⟨k, hk⟩
  have C := Lib.hid (rl_hasI k hk)
  simp only at H
  cases h16 : hasI k 16 <;> cases h4 : hasI k 4 <;> cases h32 : hasI k 32 <;> cases h1 : hasI k 1 <;> cases h2 : hasI k 2 <;> cases h8 : hasI k 8
  all_goals
    rw [h16, h4, h32, h1, h2, h8] at H
    have HH := Lib.hid H
    clear H
    rw [HH.out]
    clear HH
    go_enter Tryd.func15, Tryd.ntmps15
    go_wp2_with (go_at_call 17; refine (C.out _ _ (by omega) (by omega)).mono ?_; rintro e w' ⟨rfl, rfl⟩)
    go_ret
    exact ⟨rfl, rfl⟩
end Go.Proofs.YtadihdkpoeibhaaDoor
