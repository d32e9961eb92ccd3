/- Walks: the reference's Bit and Has, Of of both sides. Conditions: a set is a number from 0 to 2^64 - 1; a slice's cells are known. -/
import Derived.Test.YtadihdkpoeibhaaDoorSetB
import Derived.Test.YtadihdkpoeibhaaDoorSlc
namespace Go.Proofs.YtadihdkpoeibhaaDoor
set_option maxRecDepth 100000
open Go.RowKit

theorem half_step (s k : Nat) : ((s / 2 ^ k : Nat) : Int) / 2 = ((s / 2 ^ (k + 1) : Nat) : Int) := by
  rw [Nat.pow_succ, ← Nat.div_div_eq_div_mul]; omega
theorem half_end (s k : Nat) (hk : k < 64) : (((s / 2 ^ k : Nat) : Int) % 2 == 1) = hasB s (k : Int) := by
  unfold hasB
  have h : 0 ≤ (k : Int) ∧ (k : Int) < 64 := by omega
  rw [Nat.testBit_eq_decide_div_mod_eq, Int.toNat_natCast]
  generalize s / 2 ^ k = c
  rw [Bool.eq_iff_iff]
  simp [h]
  omega
theorem half_lt (s k : Nat) : s / 2 ^ k ≤ s := Nat.div_le_self _ _
/-- Is a number among some? -/
def hasL (l : List Int) (n : Int) : Bool := l.any fun x => x == n
theorem hasL_succ (l : List Int) (n : Int) (k : Nat) (hk : k < l.length) : hasL (l.take (k + 1)) n = (hasL (l.take k) n || l[k] == n) := by
  unfold hasL
  rw [List.take_succ_eq_append_getElem hk, List.any_append]; simp
theorem hasL_hit (l : List Int) (n : Int) (k : Nat) (hk : k < l.length) (h : l[k] = n) : true = hasL l n := by
  unfold hasL
  symm
  rw [List.any_eq_true]
  exact ⟨l[k], List.getElem_mem hk, by simp [h]⟩
end Go.Proofs.YtadihdkpoeibhaaDoor
