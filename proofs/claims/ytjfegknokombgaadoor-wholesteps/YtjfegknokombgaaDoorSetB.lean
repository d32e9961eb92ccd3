/- Walks: Count and First over the library's counting of bits, Within and Below. Conditions: a set is a number from 0 to 2^64 - 1; First's library table lies where it is laid. -/
import Derived.Test.YtjfegknokombgaaDoorSetA
import Derived.Test.YtjfegknokombgaaDoorSetN
namespace Go.Proofs.YtjfegknokombgaaDoor
set_option maxRecDepth 100000
open Go.RowKit

theorem wrap64_nat (m : Nat) (h : m < 9223372036854775808) : wrap64 (m : Int) = (m : Int) := by unfold wrap64; omega

set_option maxHeartbeats 400000 in
theorem ones_any (s : Nat) (w : World) (hs : IsSet s) :
    Calls Tryd.prog 67 #[.int .u64 (s : Int)] w fun e w' => e = .returned (.int .i64 (((lst s).length : Nat) : Int)) ∧ w = w' := by
  have H : Hid (IsSet s) := Lib.hid hs
  clear hs
  go_enter Tryd.func67, Tryd.ntmps67
  go_wp2
  go_ret
  refine ⟨?_, rfl⟩
  obtain ⟨m, h1, h2, h3⟩ := ones_eq s H.out
  refine ret_i ?_
  have e : Go.bits .and .i64 (wrap64 (sF (sE (sD (sC (sB (sA (s : Int)))))))) 127 = (((lst s).length : Nat) : Int) := by rw [h1, wrap64_nat m h2, h3]
  exact e
set_option maxHeartbeats 400000 in
theorem count_any (s : Nat) (w : World) (hs : IsSet s) :
    Calls Tryd.prog 50 #[.int .u64 (s : Int)] w fun e w' => e = .returned (.int .i64 (((lst s).length : Nat) : Int)) ∧ w = w' := by
  go_enter Tryd.func50, Tryd.ntmps50
  go_wp2_with (go_at_call 67; refine (ones_any _ _ hs).mono ?_; rintro e w' ⟨rfl, rfl⟩)
  go_ret
  exact ⟨rfl, rfl⟩

/-- The library's table lies in memory. -/
def Tab (w : World) : Prop := ∀ i, i < 64 → w.cell? ⟨1, i, none⟩ = some (.int .u8 (deB.getD i 0))
theorem Tab.pos {w : World} (h : Tab w) : 1 < w.heap.size := by
  have := h 0 (by omega)
  by_cases h0 : 1 < w.heap.size
  · exact h0
  · simp [World.cell?, Array.getElem?_eq_none (Nat.le_of_not_lt h0)] at this
theorem Tab.below {w w' : World} {B : Nat} (h : Tab w) (hb : Below B w w') (hB : 1 < B) : Tab w' :=
  fun i hi => (hb.cell (p := ⟨1, i, none⟩) hB).trans (h i hi)

set_option maxHeartbeats 400000 in
theorem ntz_zero (w : World) :
    Calls Tryd.prog 75 #[.int .u64 0] w fun e w' => e = .returned (.int .i64 64) ∧ w = w' := by
  go_enter Tryd.func75, Tryd.ntmps75
  go_wp2
  go_ret
  exact ⟨rfl, rfl⟩
set_option maxHeartbeats 400000 in
theorem ntz_walk (s p x k : Nat) (w : World) (h0 : 0 < s) (hn : Go.bits .and .u64 (s : Int) (IntKind.u64.wrap (-(s : Int))) = ((p : Nat) : Int))
    (hi : IntKind.u64.wrap ((p : Int) * 285870213051353865) / 288230376151711744 = ((x : Nat) : Int)) (hx : x < 64) (hc : w.cell? ⟨1, x, none⟩ = some (.int .u8 (k : Int))) (hk : k < 64) :
    Calls Tryd.prog 75 #[.int .u64 (s : Int)] w fun e w' => e = .returned (.int .i64 (k : Int)) ∧ w = w' := by
  go_enter Tryd.func75, Tryd.ntmps75
  go_wp2
  go_ret
  exact ⟨rfl, rfl⟩
theorem ntz_pos (s : Nat) (w : World) (hs : IsSet s) (h0 : 0 < s) (ht : Tab w) :
    Calls Tryd.prog 75 #[.int .u64 (s : Int)] w fun e w' => e = .returned (.int .i64 ((fst s : Nat) : Int)) ∧ w = w' := by
  have hlt := fst_lt (lst_ne hs h0)
  obtain ⟨hd1, hd2⟩ := deB_at ⟨fst s, hlt⟩
  simp only at hd1 hd2
  have hc := ht _ hd1
  rw [hd2] at hc
  exact ntz_walk s (2 ^ fst s) (deIdx (fst s)) (fst s) w h0 (bits_neg s hs h0) (de_idx (fst s)) hd1 hc hlt
theorem first_any (s : Nat) (w : World) (hs : IsSet s) (ht : Tab w) :
    Calls Tryd.prog 63 #[.int .u64 (s : Int)] w fun e w' => e = .returned (.int .i64 ((fst s : Nat) : Int)) ∧ w = w' := by
  have hz : Calls Tryd.prog 75 #[.int .u64 (s : Int)] w fun e w' => e = .returned (.int .i64 ((fst s : Nat) : Int)) ∧ w = w' := by
    rcases Nat.eq_zero_or_pos s with h | h
    · subst h; exact ntz_zero w
    · exact ntz_pos s w hs h ht
  have H := Lib.hid hz
  clear hz
  go_enter Tryd.func63, Tryd.ntmps63
  go_wp2_with (go_at_call 75; refine (H.out).mono ?_; rintro e w' ⟨rfl, rfl⟩)
  go_ret
  exact ⟨rfl, rfl⟩

/-- Are all numbers of a set in another one? -/
def inB (s t : Nat) : Bool := (s ^^^ (s &&& t)) == 0
theorem bits_in (s t : Nat) (hs : IsSet s) (ht : IsSet t) : (Go.bits .andNot .u64 (s : Int) (t : Int) == 0) = inB s t := by
  rw [bits_andNot_u64_nat s t hs ht, inB, Bool.eq_iff_iff]; simp
set_option maxHeartbeats 400000 in
theorem within_any (s t : Nat) (w : World) (hs : IsSet s) (ht : IsSet t) :
    Calls Tryd.prog 65 #[.int .u64 (s : Int), .int .u64 (t : Int)] w fun e w' => e = .returned (.bool (inB s t)) ∧ w = w' := by
  have H := Lib.hid (bits_in s t hs ht)
  clear hs ht
  go_enter Tryd.func65, Tryd.ntmps65
  go_wp2
  go_ret
  exact ⟨ret_b H.out, rfl⟩

/-- All numbers below one, as a set. -/
def belowS (n : Int) : Nat := if n ≤ 0 then 0 else if 64 ≤ n then 18446744073709551615 else 2 ^ n.toNat - 1
theorem below_mid (n : Int) (h0 : ¬ n ≤ 0) (h1 : ¬ 64 ≤ n) : IntKind.u64.wrap (IntKind.u64.wrap (2 ^ n.toNat) - 1) = ((belowS n : Nat) : Int) := by
  rw [wrap_two_pow n (by omega) (by omega)]
  have hb := isSet_bt n
  unfold belowS
  rw [if_neg h0, if_neg h1]
  unfold bt IsSet at *
  rw [if_pos ⟨by omega, by omega⟩] at *
  have : 0 < 2 ^ n.toNat := Nat.two_pow_pos _
  generalize 2 ^ n.toNat = k at *
  rw [IntKind.wrap_u64]; omega
set_option maxHeartbeats 400000 in
theorem below_any (n : Int) (w : World) :
    Calls Tryd.prog 37 #[.int .i64 n] w fun e w' => e = .returned (.int .u64 ((belowS n : Nat) : Int)) ∧ w = w' := by
  have H : Hid (∀ (h0 : ¬ n ≤ 0) (h1 : ¬ 64 ≤ n), IntKind.u64.wrap (IntKind.u64.wrap (2 ^ n.toNat) - 1) = ((belowS n : Nat) : Int)) := Lib.hid (below_mid n)
  by_cases h0 : n ≤ 0
  · have e : (0 : Int) = ((belowS n : Nat) : Int) := by unfold belowS; rw [if_pos h0]; rfl
    have E := Lib.hid e; clear e
    go_enter Tryd.func37, Tryd.ntmps37
    go_wp2
    go_ret
    exact ⟨ret_i E.out, rfl⟩
  by_cases h1 : 64 ≤ n
  · have e : (18446744073709551615 : Int) = ((belowS n : Nat) : Int) := by unfold belowS; rw [if_neg h0, if_pos h1]; rfl
    have E := Lib.hid e; clear e
    go_enter Tryd.func37, Tryd.ntmps37
    go_wp2
    go_ret
    exact ⟨ret_i E.out, rfl⟩
  · go_enter Tryd.func37, Tryd.ntmps37
    go_wp2
    go_ret
    exact ⟨ret_i (H.out h0 h1), rfl⟩
end Go.Proofs.YtjfegknokombgaaDoor
