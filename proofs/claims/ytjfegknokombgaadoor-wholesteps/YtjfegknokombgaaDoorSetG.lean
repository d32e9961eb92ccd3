/- Walks: what the set layer's statements ask first (two numbers). Condition: First's library table lies where it is laid. -/
import Derived.Test.YtjfegknokombgaaDoorSetF
namespace Go.Proofs.YtjfegknokombgaaDoor
set_option maxRecDepth 100000
open Go.RowKit

theorem ints_lit (w : World) (xs : List Int) (cs : Array Value) (n : Nat) (hc : cs.toList = xs.map (Value.int .i64)) (hn : n = xs.length) (hm : n ≤ maxLen) :
    Ints (w.alloc (.cells cs 3)) (.slice (some ⟨w.heap.size, 0, none⟩) n n) xs := by
  have hs : cs.size = n * 1 := by
    have := congrArg List.length hc
    simp at this; omega
  have h := World.ownsRow_lit (base := 0) (e := 3) (size := 1) w cs n (Nat.zero_le _) hm hs
  rw [hc] at h
  exact Ints.of_owns h
theorem ints_nat (l : List Nat) : (l.map fun i : Nat => Value.int .i64 (i : Int)) = (l.map Int.ofNat).map (Value.int .i64) := by rw [List.map_map]; rfl
theorem Ints.of_nats {w : World} {base : Nat} {e : TypeId} {v : Value} {n : Nat} {l : List Nat} (h : w.ownsRow base e 1 v n (l.map fun i : Nat => Value.int .i64 (i : Int))) : Ints w v (l.map Int.ofNat) := by
  rw [ints_nat] at h; exact Ints.of_owns h

theorem sp_of (w : World) : Calls Tryd.prog 35 #[.slice (some ⟨w.heap.size, 0, none⟩) 3 3] (w.alloc (.cells #[.int .i64 3, .int .i64 1, .int .i64 64] 3)) fun e w' => e = .returned (.int .u64 10) ∧ w.alloc (.cells #[.int .i64 3, .int .i64 1, .int .i64 64] 3) = w' := by
  have h := of_any _ [3, 1, 64] _ (ints_lit w [3, 1, 64] #[.int .i64 3, .int .i64 1, .int .i64 64] 3 rfl rfl (by decide))
  have e : setL [3, 1, 64] = 10 := by decide
  rw [e] at h
  exact h
theorem isSet10 : IsSet 10 := by unfold IsSet; omega
theorem sp_list (w : World) (ht : Tab w) : Calls Tryd.prog 66 #[.int .u64 10] w fun e w' => ∃ v, e = .returned v ∧ Ints w' v [1, 3] ∧ Below w.heap.size w w' := by
  refine (list_any 10 w isSet10 ht).mono ?_
  rintro e w' ⟨v, rfl, h, hb⟩
  exact ⟨v, rfl, by have := Ints.of_nats h; rwa [show (lst 10).map Int.ofNat = [1, 3] from by decide] at this, hb⟩
theorem sp_count (w : World) : Calls Tryd.prog 50 #[.int .u64 10] w fun e w' => e = .returned (.int .i64 2) ∧ w = w' := by
  have h := count_any 10 w isSet10
  rw [show (lst 10).length = 2 from by decide] at h
  exact h
theorem sp_first (w : World) (ht : Tab w) : Calls Tryd.prog 63 #[.int .u64 10] w fun e w' => e = .returned (.int .i64 1) ∧ w = w' := by
  have h := first_any 10 w isSet10 ht
  rw [show fst 10 = 1 from by decide] at h
  exact h
theorem sp_below (w : World) : Calls Tryd.prog 37 #[.int .i64 2] w fun e w' => e = .returned (.int .u64 3) ∧ w = w' := by
  have h := below_any 2 w
  rw [show belowS 2 = 3 from by decide] at h
  exact h
theorem sp_same (w1 : World) (v : Value) (hv : Ints w1 v [1, 3]) : Calls Tryd.prog 18 #[v, .slice (some ⟨w1.heap.size, 0, none⟩) 2 2] (w1.alloc (.cells #[.int .i64 1, .int .i64 3] 3)) fun e w' => e = .returned (.bool true) ∧ Below (w1.heap.size + 1) (w1.alloc (.cells #[.int .i64 1, .int .i64 3] 3)) w' := by
  have h := same_any v _ [1, 3] [1, 3] _ (hv.below ((Below.refl _ _).alloc (Nat.le_refl _) _)) (ints_lit w1 [1, 3] #[.int .i64 1, .int .i64 3] 2 rfl rfl (by decide))
  rw [show sameL [1, 3] [1, 3] = true from by decide] at h
  simpa using h
end Go.Proofs.YtjfegknokombgaaDoor
