/- Walks: Count and First over the library's counting of bits, Within and Below. Conditions: a set is a number from 0 to 2^64 - 1; First's library table lies where it is laid. -/
import Derived.Test.YtadihdkpoeibhaaDoorSetA
import Derived.Test.YtadihdkpoeibhaaDoorSetN
namespace Go.Proofs.YtadihdkpoeibhaaDoor
set_option maxRecDepth 100000
open Go.RowKit

theorem wrap64_nat (m : Nat) (h : m < 9223372036854775808) : wrap64 (m : Int) = (m : Int) := by unfold wrap64; omega

/-- Are all numbers of a set in another one? -/
def inB (s t : Nat) : Bool := (s ^^^ (s &&& t)) == 0
theorem bits_in (s t : Nat) (hs : IsSet s) (ht : IsSet t) : (Go.bits .andNot .u64 (s : Int) (t : Int) == 0) = inB s t := by
  rw [bits_andNot_u64_nat s t hs ht, inB, Bool.eq_iff_iff]; simp
/-- All numbers below one, as a set. -/
def belowS (n : Int) : Nat := if n ≤ 0 then 0 else if 64 ≤ n then 18446744073709551615 else 2 ^ n.toNat - 1
theorem below_mid (n : Int) (h0 : ¬ n ≤ 0) (h1 : ¬ 64 ≤ n) : IntKind.u64.wrap (IntKind.u64.wrap (2 ^ n.toNat) - 1) = ((belowS n : Nat) : Int) := by
  rw [wrap_two_pow n (by omega) (by omega)]
  have hb := isSet_bt n
  unfold belowS
  rw [if_neg h0, if_neg h1]
  unfold bt IsSet at *
  rw [if_pos ⟨by omega, by omega⟩] at *
  have : 0 < 2 ^ n.toNat := Nat.two_pow_pos _
  generalize 2 ^ n.toNat = k at *
  rw [IntKind.wrap_u64]; omega
end Go.Proofs.YtadihdkpoeibhaaDoor
