/- Walks of the reference's level functions: Has, Asks, Name, Closed. Conditions: what is asked is a number below 64. -/
import Derived.Test.YtadihdkpoeibhaaDoorLevB
namespace Go.Proofs.YtadihdkpoeibhaaDoor
set_option maxRecDepth 100000
open Go.RowKit

/-- Is a thing asked, by its number? -/
def hasT (k t : Nat) : Bool := decide (k / t % 2 = 1)
theorem rl_has (k t : Nat) (hk : k < 64) (ht : 0 < t) (ht2 : t ≤ 32) (w : World) : Calls Tryd.prog 17 #[.int .i64 k, .int .i64 t] w fun e w' => e = .returned (.bool (hasT k t)) ∧ w = w' := by
  have h0 : ((t : Int) == 0) = false := by rw [beq_eq_false_iff_ne]; omega
  have hd : ((k : Int).tdiv (t : Int)) = ((k / t : Nat) : Int) := by rw [Int.tdiv_eq_ediv_of_nonneg (Int.natCast_nonneg k)]; rfl
  have hq : k / t < 64 := Nat.lt_of_le_of_lt (Nat.div_le_self _ _) hk
  have hm : (((k / t : Nat) : Int).tmod 2) = ((k / t % 2 : Nat) : Int) := by rw [Int.tmod_eq_emod_of_nonneg (Int.natCast_nonneg _)]; rfl
  have H : Hid ((((k / t % 2 : Nat) : Int) == 1) = hasT k t) := Lib.hid (by unfold hasT; rw [Bool.eq_iff_iff, beq_iff_eq, decide_eq_true_eq]; omega)
  have hm2 : k / t % 2 < 2 := Nat.mod_lt _ (by omega)
  rw [← H.out]
  generalize k / t = q at *
  generalize q % 2 = r at *
  go_enter Tryd.func17, Tryd.ntmps17
  go_wp2
  go_ret
  exact ⟨rfl, rfl⟩
theorem rl_asks (l : Int) (w : World) : Calls Tryd.prog 16 #[.int .i64 l] w fun e w' => e = .returned (.int .i64 (askN l)) ∧ w = w' := by
  by_cases h : 0 ≤ l ∧ l < 12
  · obtain ⟨k, rfl⟩ := Int.eq_ofNat_of_zero_le h.1
    have hk : k < 12 := by omega
    clear h
    match k, hk with
    | 0, _ | 1, _ | 2, _ | 3, _ | 4, _ | 5, _ | 6, _ | 7, _ | 8, _ | 9, _ | 10, _ | 11, _ =>
      go_enter Tryd.func16, Tryd.ntmps16
      go_wp2
      go_ret
      exact ⟨rfl, rfl⟩
    | k + 12, hk => exact absurd hk (by omega)
  · have H : Hid (((askN l : Nat) : Int) = 0) := Lib.hid (by unfold askN isLv; rw [if_neg (by simpa using h)]; rfl)
    rw [H.out]
    by_cases h0 : l < 0
    all_goals
      go_enter Tryd.func16, Tryd.ntmps16
      go_wp2
      go_ret
      exact ⟨rfl, rfl⟩
theorem rl_name (l : Int) (w : World) : Calls Tryd.prog 10 #[.int .i64 l] w fun e w' => e = .returned (.string (nameN l)) ∧ w = w' := by
  by_cases h : 0 ≤ l ∧ l < 12
  · obtain ⟨k, rfl⟩ := Int.eq_ofNat_of_zero_le h.1
    have hk : k < 12 := by omega
    clear h
    match k, hk with
    | 0, _ | 1, _ | 2, _ | 3, _ | 4, _ | 5, _ | 6, _ | 7, _ | 8, _ | 9, _ | 10, _ | 11, _ =>
      go_enter Tryd.func10, Tryd.ntmps10
      go_wp2
      go_ret
      exact ⟨rfl, rfl⟩
    | k + 12, hk => exact absurd hk (by omega)
  · have H : Hid (nameN l = ⟨#[]⟩) := Lib.hid (by unfold nameN isLv; rw [if_neg (by simpa using h)])
    rw [H.out]
    by_cases h0 : l < 0
    all_goals
      go_enter Tryd.func10, Tryd.ntmps10
      go_wp2
      go_ret
      exact ⟨rfl, rfl⟩
/-- What follows of what is asked, as the reference says it. -/
def clR (k : Nat) : Nat :=
  let total := hasT k 16
  let prefx := hasT k 4 || total
  let time := hasT k 32
  (if hasT k 1 || time then 1 else 0) + (if hasT k 2 || prefx then 2 else 0) + (if prefx then 4 else 0) + (if hasT k 8 || total then 8 else 0) + (if total then 16 else 0) + (if time then 32 else 0)
theorem clR_eq : ∀ k : Fin 64, clR k.val = clN k.val := by decide +kernel
end Go.Proofs.YtadihdkpoeibhaaDoor
