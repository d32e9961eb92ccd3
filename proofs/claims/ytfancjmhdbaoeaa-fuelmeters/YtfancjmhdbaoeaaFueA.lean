/- Plain facts on how much work there may be: a product held at 2^62, and the product of all numbers up to one; how often whoever tries all orders tries. Nothing of the program. -/
import Derived.Test.YtfancjmhdbaoeaaSetM
namespace Go.Proofs.Ytfancjmhdbaoeaa
set_option maxRecDepth 100000

/-- A product of two numbers, or as much as there ever is, if it is more. -/
def timesN (a b : Nat) : Nat := min (a * b) 4611686018427387904
theorem times_big {a b : Nat} (hb : 0 < b) (h : 4611686018427387904 / b < a) : timesN a b = 4611686018427387904 := by
  have := (Nat.div_lt_iff_lt_mul hb).1 h
  exact Nat.min_eq_right (Nat.le_of_lt this)
theorem times_small {a b : Nat} (hb : 0 < b) (h : ¬ 4611686018427387904 / b < a) : timesN a b = a * b ∧ a * b ≤ 4611686018427387904 := by
  have := (Nat.le_div_iff_mul_le hb).1 (Nat.le_of_not_lt h)
  exact ⟨Nat.min_eq_left this, this⟩
theorem times_le (a b : Nat) : timesN a b ≤ 4611686018427387904 := Nat.min_le_right _ _
theorem times_pos {a b : Nat} (ha : 0 < a) (hb : 0 < b) : 0 < timesN a b := Nat.lt_min.2 ⟨Nat.mul_pos ha hb, by decide⟩
theorem times_ge {a b : Nat} (hb : 0 < b) (ha : a ≤ 4611686018427387904) : a ≤ timesN a b := Nat.le_min.2 ⟨Nat.le_mul_of_pos_right a hb, ha⟩
/-- As the reference reckons it: added up as often. -/
theorem times_add {a k : Nat} (h : 4611686018427387904 - a < k * a) (ha : a ≤ 4611686018427387904) {b : Nat} (hb : k < b) : timesN a b = 4611686018427387904 := by
  refine Nat.min_eq_right ?_
  have h1 : (k + 1) * a ≤ b * a := Nat.mul_le_mul_right a hb
  rw [Nat.succ_mul] at h1
  rw [Nat.mul_comm a b]
  omega
/-- Three times the product of all numbers up to one. -/
def levN : Nat → Nat
  | 0 => 3
  | k + 1 => timesN (levN k) (k + 1)
theorem lev_le : ∀ k, levN k ≤ 4611686018427387904
  | 0 => by decide
  | k + 1 => times_le _ _
theorem lev_pos : ∀ k, 0 < levN k
  | 0 => by decide
  | k + 1 => times_pos (lev_pos k) (Nat.succ_pos k)
theorem lev_step (k : Nat) : levN k ≤ levN (k + 1) := times_ge (Nat.succ_pos k) (lev_le k)
theorem lev_mono {i k : Nat} (h : i ≤ k) : levN i ≤ levN k := by
  induction h with
  | refl => exact Nat.le_refl _
  | step _ ih => exact Nat.le_trans ih (lev_step _)
theorem lev_full {i k : Nat} (h : i ≤ k) (hi : 4611686018427387904 ≤ levN i) : levN k = 4611686018427387904 := Nat.le_antisymm (lev_le k) (Nat.le_trans hi (lev_mono h))
theorem lev_64 : levN 64 = 4611686018427387904 := by decide +kernel
theorem lev_most {k : Nat} (h : 64 ≤ k) : levN k = 4611686018427387904 := lev_full h (Nat.le_of_eq lev_64.symm)
def levZ (n : Int) : Nat := levN n.toNat
theorem levZ_mono {n : Int} (h : 0 ≤ n) : levZ n ≤ levZ (n + 1) := lev_mono (by omega)
theorem lev_3 : levN 3 = 18 := by decide +kernel
theorem all_3 : timesN (levN 3) 12 = 216 := by decide +kernel
/-- How often a next one is tried. -/
def triesN : Nat → Nat
  | 0 => 0
  | k + 1 => (k + 1) * (1 + triesN k)
theorem tries_le : ∀ k, k ≤ 8 → triesN k ≤ 109600 := by decide +kernel
theorem tries_lev : ∀ k, k ≤ 8 → triesN k ≤ levN k := by decide +kernel
/-- What is used of a measure of fuel, spent so often; what is left. -/
def fuelN (much : Int) : Nat := (min (max much 0) 4611686018427387904).toNat
def usedN (f k : Nat) : Nat := if f = 4611686018427387904 then k else min k f
def leftN (f u : Nat) : Nat := if f = 4611686018427387904 then 4611686018427387904 else f - u
theorem fuel_le (much : Int) : fuelN much ≤ 4611686018427387904 := by unfold fuelN; omega
theorem used_le {f k : Nat} : usedN f k ≤ k := by unfold usedN; split <;> omega
theorem used_le_fuel {f k : Nat} (h : f ≠ 4611686018427387904) : usedN f k ≤ f := by unfold usedN; rw [if_neg h]; omega
/-- What the law holds of a meter that was spent k times. -/
theorem meter_left {much : Int} {k : Nat} (hk : k < 256) : ((leftN (fuelN much) (usedN (fuelN much) k) : Nat) : Int) = max (if 4611686018427387904 ≤ much then 4611686018427387904 else max much 0 - (k : Int)) 0 := by
  unfold leftN usedN fuelN
  split <;> split <;> omega
theorem meter_used {much : Int} {k : Nat} (hk : k < 256) : ((usedN (fuelN much) k : Nat) : Int) = (k : Int) ∨ ((usedN (fuelN much) k : Nat) : Int) = max much 0 := by
  unfold usedN fuelN
  split <;> omega
theorem meter_spend {f k : Nat} (h : leftN f (usedN f k) ≠ 0) (hf : f ≤ 4611686018427387904) : usedN f (k + 1) = usedN f k + 1 := by
  by_cases e : f = 4611686018427387904
  · unfold usedN; rw [if_pos e, if_pos e]
  · unfold leftN usedN at h
    unfold usedN
    rw [if_neg e, if_neg e] at h
    rw [if_neg e, if_neg e]; omega
theorem meter_none {f k : Nat} (h : leftN f (usedN f k) = 0) : usedN f (k + 1) = usedN f k := by
  by_cases e : f = 4611686018427387904
  · unfold leftN at h; rw [if_pos e] at h; cases h
  · unfold leftN usedN at h
    unfold usedN
    rw [if_neg e, if_neg e] at h
    rw [if_neg e, if_neg e]; omega
theorem meter_end {much : Int} {k : Nat} (hk : k < 256) : ((usedN (fuelN much) k : Nat) : Int) = min (max much 0) (k : Int) := by
  unfold usedN fuelN
  split <;> omega
end Go.Proofs.Ytfancjmhdbaoeaa
