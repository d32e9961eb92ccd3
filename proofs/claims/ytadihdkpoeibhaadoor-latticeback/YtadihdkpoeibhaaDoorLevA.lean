/- Plain facts on the twelve levels: their names, what they ask, what follows of that; the table of them as it lies in memory. Conditions: none. -/
import Derived.Laws.Bits128
import Derived.WalkKit
import Derived.WalkSpells
import Derived.WalkLawsBesides
import Derived.Lib.Hide
namespace Go.Proofs.YtadihdkpoeibhaaDoor
set_option maxRecDepth 100000
open Go.RowKit

/-- What the levels ask, by their numbers; their names. -/
def askL : List Nat := [0, 1, 3, 9, 5, 11, 13, 17, 34, 36, 44, 48]
def nameL : List (List UInt8) := [[114, 101, 97, 100, 45, 97, 116, 111, 109, 105, 99], [115, 101, 115, 115, 105, 111, 110, 45, 97, 116, 111, 109, 105, 99], [99, 97, 117, 115, 97, 108], [117, 112, 100, 97, 116, 101], [112, 114, 101, 102, 105, 120], [112, 97, 114, 97, 108, 108, 101, 108], [115, 110, 97, 112, 115, 104, 111, 116], [115, 101, 114, 105, 97, 108], [116, 105, 109, 101, 45, 99, 97, 117, 115, 97, 108], [116, 105, 109, 101, 45, 112, 114, 101, 102, 105, 120], [116, 105, 109, 101, 45, 115, 110, 97, 112, 115, 104, 111, 116], [115, 116, 114, 105, 99, 116]]
def isLv (l : Int) : Bool := decide (0 ≤ l ∧ l < 12)
def askAt (k : Nat) : Nat := askL.getD k 0
def nameAt (k : Nat) : ByteArray := ⟨(nameL.getD k []).toArray⟩
def askN (l : Int) : Nat := if isLv l then askAt l.toNat else 0
def nameN (l : Int) : ByteArray := if isLv l then nameAt l.toNat else ⟨#[]⟩
/-- What follows of what is asked, of a number below 64. -/
def clN (k : Nat) : Nat :=
  let a := if k.testBit 4 then k ||| 12 else k
  let b := if a.testBit 2 then a ||| 2 else a
  if b.testBit 5 then b ||| 1 else b
def clI (x : Int) : Nat := clN (x % 64).toNat
theorem askAt_lt : ∀ k : Fin 12, askAt k.val < 64 := by decide
theorem askN_lt (l : Int) : askN l < 64 := by
  unfold askN isLv
  split
  · rename_i h
    simp only [decide_eq_true_eq] at h
    exact askAt_lt ⟨l.toNat, by omega⟩
  · omega
theorem clN_lt : ∀ k : Fin 64, clN k.val < 64 := by decide +kernel
theorem clI_lt (x : Int) : clI x < 64 := clN_lt ⟨(x % 64).toNat, by omega⟩

theorem and63 (n : Int) : bits .and .i64 n 63 = n % 64 := by
  have h1 : (BitVec.ofInt 64 63) = 63#64 := by decide
  show IntKind.i64.wrap ((BitVec.ofInt 64 n &&& BitVec.ofInt 64 63).toNat : Int) = _
  have h2 : (BitVec.ofInt 64 n &&& BitVec.ofInt 64 63).toNat = (BitVec.ofInt 64 n).toNat % 64 := by
    rw [BitVec.toNat_and, h1]
    exact Nat.and_two_pow_sub_one_eq_mod _ 6
  rw [h2, BitVec.toNat_ofInt, IntKind.wrap_i64]
  omega
theorem i64_and_nat (a b : Nat) (ha : a < 9223372036854775808) (hb : b < 9223372036854775808) : bits .and .i64 (a : Int) (b : Int) = ((a &&& b : Nat) : Int) := by
  have hx : a &&& b ≤ a := Nat.and_le_left
  have h1 : (BitVec.ofInt 64 (a : Int)).toNat = a := by
    rw [BitVec.ofInt_natCast, BitVec.toNat_ofNat]; exact Nat.mod_eq_of_lt (by omega)
  have h2 : (BitVec.ofInt 64 (b : Int)).toNat = b := by
    rw [BitVec.ofInt_natCast, BitVec.toNat_ofNat]; exact Nat.mod_eq_of_lt (by omega)
  show IntKind.i64.wrap ((BitVec.ofInt 64 (a : Int) &&& BitVec.ofInt 64 (b : Int)).toNat : Int) = _
  rw [BitVec.toNat_and, h1, h2, IntKind.wrap_i64]
  omega
theorem i64_or_nat (a b : Nat) (ha : a < 2 ^ 63) (hb : b < 2 ^ 63) : bits .or .i64 (a : Int) (b : Int) = ((a ||| b : Nat) : Int) := by
  have hx : a ||| b < 2 ^ 63 := Nat.or_lt_two_pow ha hb
  have h1 : (BitVec.ofInt 64 (a : Int)).toNat = a := by
    rw [BitVec.ofInt_natCast, BitVec.toNat_ofNat]; exact Nat.mod_eq_of_lt (by omega)
  have h2 : (BitVec.ofInt 64 (b : Int)).toNat = b := by
    rw [BitVec.ofInt_natCast, BitVec.toNat_ofNat]; exact Nat.mod_eq_of_lt (by omega)
  show IntKind.i64.wrap ((BitVec.ofInt 64 (a : Int) ||| BitVec.ofInt 64 (b : Int)).toNat : Int) = _
  rw [BitVec.toNat_or, h1, h2, IntKind.wrap_i64]
  omega
theorem i64_andNot_nat (a b : Nat) (ha : a < 2 ^ 63) (hb : b < 2 ^ 63) : bits .andNot .i64 (a : Int) (b : Int) = ((a ^^^ (a &&& b) : Nat) : Int) := by
  have hx : a ^^^ (a &&& b) < 2 ^ 63 := Nat.xor_lt_two_pow ha (Nat.lt_of_le_of_lt Nat.and_le_left ha)
  have h1 : (BitVec.ofInt 64 (a : Int)).toNat = a := by
    rw [BitVec.ofInt_natCast, BitVec.toNat_ofNat]; exact Nat.mod_eq_of_lt (by omega)
  have h2 : (BitVec.ofInt 64 (b : Int)).toNat = b := by
    rw [BitVec.ofInt_natCast, BitVec.toNat_ofNat]; exact Nat.mod_eq_of_lt (by omega)
  show IntKind.i64.wrap ((BitVec.ofInt 64 (a : Int) &&& ~~~ (BitVec.ofInt 64 (b : Int))).toNat : Int) = _
  have e : ∀ x y : BitVec 64, x &&& ~~~ y = x ^^^ (x &&& y) := by
    intro x y; ext i hi; simp; cases x[i] <;> cases y[i] <;> rfl
  rw [e, BitVec.toNat_xor, BitVec.toNat_and, h1, h2, IntKind.wrap_i64]
  omega
end Go.Proofs.YtadihdkpoeibhaaDoor
