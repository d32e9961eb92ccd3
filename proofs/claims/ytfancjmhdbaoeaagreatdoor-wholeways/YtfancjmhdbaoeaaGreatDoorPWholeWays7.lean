/- Walks and plain facts that the proof of the statement WholeWays uses, joined: LeaH TblA AxiF PlaA AxiG PlaC AxiH OrdP LesA LesB AxhA PlaD PlaE PlaB AxhD AxhF PlaQ BruE. Conditions: each theorem's own. -/
import Derived.Laws.Tables
import Derived.Laws.CopyOwn
import Derived.Deep.QuietTactic
import Derived.BigQuiet
import Derived.OneCell
import Derived.Lib.BufferWrite
import Derived.Test.YtfancjmhdbaoeaaGreatDoorPWholeWays0
import Derived.Test.YtfancjmhdbaoeaaGreatDoorPWholeWays1
import Derived.Test.YtfancjmhdbaoeaaGreatDoorPWholeWays2
import Derived.Test.YtfancjmhdbaoeaaGreatDoorPWholeWays3
import Derived.Test.YtfancjmhdbaoeaaGreatDoorPWholeWays4
import Derived.Test.YtfancjmhdbaoeaaGreatDoorPWholeWays5
import Derived.Test.YtfancjmhdbaoeaaGreatDoorPWholeWays6
namespace Go.Proofs.YtfancjmhdbaoeaaGreatDoor
set_option maxRecDepth 100000
open Go.RowKit

theorem nat_bit (x k : Nat) : (x &&& 2 ^ k = 0) ↔ x.testBit k = false := by
  constructor
  · intro h
    have h1 : (x &&& 2 ^ k).testBit k = false := by rw [h]; exact Nat.zero_testBit k
    rw [Nat.testBit_and, Nat.testBit_two_pow] at h1
    simpa using h1
  · intro h
    refine Nat.eq_of_testBit_eq fun i => ?_
    rw [Nat.testBit_and, Nat.testBit_two_pow, Nat.zero_testBit]
    by_cases e : k = i
    · subst e; rw [h]; rfl
    · simp [e]
theorem bit_zero (x k : Nat) (hx : x < 9223372036854775808) (hk : 2 ^ k < 9223372036854775808) : bits .and .i64 (x : Int) ((2 ^ k : Nat) : Int) = 0 ↔ x.testBit k = false := by
  rw [i64_and_nat x (2 ^ k) hx hk, ← nat_bit]
  omega
theorem bit_1 (x : Nat) (hx : x < 9223372036854775808) : bits .and .i64 (x : Int) 1 = 0 ↔ x.testBit 0 = false := bit_zero x 0 hx (by omega)
theorem bit_2 (x : Nat) (hx : x < 9223372036854775808) : bits .and .i64 (x : Int) 2 = 0 ↔ x.testBit 1 = false := bit_zero x 1 hx (by omega)
theorem bit_4 (x : Nat) (hx : x < 9223372036854775808) : bits .and .i64 (x : Int) 4 = 0 ↔ x.testBit 2 = false := bit_zero x 2 hx (by omega)
theorem bit_8 (x : Nat) (hx : x < 9223372036854775808) : bits .and .i64 (x : Int) 8 = 0 ↔ x.testBit 3 = false := bit_zero x 3 hx (by omega)
theorem bit_16 (x : Nat) (hx : x < 9223372036854775808) : bits .and .i64 (x : Int) 16 = 0 ↔ x.testBit 4 = false := bit_zero x 4 hx (by omega)
theorem bit_32 (x : Nat) (hx : x < 9223372036854775808) : bits .and .i64 (x : Int) 32 = 0 ↔ x.testBit 5 = false := bit_zero x 5 hx (by omega)
theorem trB_bit (x : Nat) (hx : x < 9223372036854775808) : trB (x : Int) = x.testBit 1 := by
  unfold trB
  have := bit_2 x hx
  cases h : x.testBit 1 with
  | true => exact decide_eq_true (fun e => by rw [this.1 e] at h; cases h)
  | false => exact decide_eq_false (fun e => e (this.2 h))
theorem pfB_bit (x : Nat) (hx : x < 9223372036854775808) : pfB (x : Int) = x.testBit 2 := by
  unfold pfB
  have := bit_4 x hx
  cases h : x.testBit 2 with
  | true => exact decide_eq_true (fun e => by rw [this.1 e] at h; cases h)
  | false => exact decide_eq_false (fun e => e (this.2 h))
theorem baseM_iff (h : List TxnV) (x : Nat) (hx : x < 9223372036854775808) (i j : Nat) : baseM h (x : Int) i j = true ↔ froM h i j = true ∨ (x.testBit 0 = true ∧ sesM h i j = true) ∨ (x.testBit 5 = true ∧ timM h i j = true) := by
  have h1 := bit_1 x hx
  have h5 := bit_32 x hx
  unfold baseM baseQ
  cases e0 : x.testBit 0 <;> cases e5 : x.testBit 5
  · rw [if_pos (h5.2 e5), if_pos (h1.2 e0)]; simp
  · rw [if_neg (fun e => by rw [h5.1 e] at e5; cases e5), if_pos (h1.2 e0), orR_iff]; simp
  · rw [if_pos (h5.2 e5), if_neg (fun e => by rw [h1.1 e] at e0; cases e0), orR_iff]; simp
  · rw [if_neg (fun e => by rw [h5.1 e] at e5; cases e5), if_neg (fun e => by rw [h1.1 e] at e0; cases e0), orR_iff, orR_iff]; simp [or_assoc]
theorem startM_iff (h : List TxnV) (x : Nat) (hx : x < 9223372036854775808) (A : Mat) (i j : Nat) : startM h (x : Int) A i j = true ↔ baseM h (x : Int) i j = true ∨ (x.testBit 3 = true ∧ rivM h A i j = true) ∨ (x.testBit 4 = true ∧ A i j = true) := by
  have h3 := bit_8 x hx
  have h4 := bit_16 x hx
  unfold startM startQ
  cases e3 : x.testBit 3 <;> cases e4 : x.testBit 4
  · rw [if_pos (h4.2 e4), if_pos (h3.2 e3)]; simp
  · rw [if_neg (fun e => by rw [h4.1 e] at e4; cases e4), if_pos (h3.2 e3), orR_iff]; simp
  · rw [if_pos (h4.2 e4), if_neg (fun e => by rw [h3.1 e] at e3; cases e3), orR_iff]; simp
  · rw [if_neg (fun e => by rw [h4.1 e] at e4; cases e4), if_neg (fun e => by rw [h3.1 e] at e3; cases e3), orR_iff, orR_iff]; simp [or_assoc]
theorem rivM_in (h : List TxnV) (A : Mat) (i j : Nat) (hr : rivM h A i j = true) : A i j = true := by
  unfold rivM at hr
  rw [Bool.and_eq_true] at hr
  exact hr.1
/-- What follows of what is asked, bit by bit. -/
theorem clN_bits : ∀ k : Fin 64, (clN k.val).testBit 0 = (k.val.testBit 0 || k.val.testBit 5) ∧ (clN k.val).testBit 1 = (k.val.testBit 1 || (k.val.testBit 2 || k.val.testBit 4)) ∧ (clN k.val).testBit 2 = (k.val.testBit 2 || k.val.testBit 4) ∧
    (clN k.val).testBit 3 = (k.val.testBit 3 || k.val.testBit 4) ∧ (clN k.val).testBit 4 = k.val.testBit 4 ∧ (clN k.val).testBit 5 = k.val.testBit 5 := by decide +kernel
theorem clI_bits (x : Nat) : (clI (x : Int)).testBit 0 = (x.testBit 0 || x.testBit 5) ∧ (clI (x : Int)).testBit 1 = (x.testBit 1 || (x.testBit 2 || x.testBit 4)) ∧ (clI (x : Int)).testBit 2 = (x.testBit 2 || x.testBit 4) ∧
    (clI (x : Int)).testBit 3 = (x.testBit 3 || x.testBit 4) ∧ (clI (x : Int)).testBit 4 = x.testBit 4 ∧ (clI (x : Int)).testBit 5 = x.testBit 5 := by
  have h := clN_bits ⟨x % 64, by omega⟩
  have e : ((x : Int) % 64).toNat = x % 64 := by omega
  have b : ∀ k, k < 6 → (x % 64).testBit k = x.testBit k := fun k hk => by
    rw [show (64 : Nat) = 2 ^ 6 from rfl, Nat.testBit_mod_two_pow, decide_eq_true hk, Bool.true_and]
  unfold clI
  rw [e]
  simp only [b 0 (by omega), b 1 (by omega), b 2 (by omega), b 3 (by omega), b 4 (by omega), b 5 (by omega)] at h
  exact h
theorem ahead_irr {L : List Int} (hn : L.Nodup) (a : Int) : ¬ Ahead L a a := by
  rw [ahead_at]
  rintro ⟨i, hi, h1, h2⟩
  obtain ⟨k, hk, h3⟩ := List.mem_iff_getElem.1 h2
  rw [List.length_drop] at hk
  rw [List.getElem_drop] at h3
  rw [List.getD_eq_getElem?_getD, List.getElem?_eq_getElem hi, Option.getD_some] at h1
  exact List.pairwise_iff_getElem.1 hn i (i + 1 + k) hi (by omega) (by omega) (h1.trans h3.symm)
theorem chain_trans {L : List Int} (hn : L.Nodup) {i m j : Nat} (h1 : chainR L i m = true) (h2 : chainR L m j = true) : chainR L i j = true := by
  rw [chainR_iff] at *
  exact h1.trans h2 (ahead_irr hn _)
theorem nodup_ofNat {L : List Nat} (h : L.Nodup) : (L.map Int.ofNat).Nodup := nodup_map Int.ofNat (fun _ _ e => Int.ofNat.inj e) h
theorem inM_iff (R S : Mat) : inM R S = true ↔ ∀ i j, i < 64 → j < 64 → R i j = true → S i j = true := by
  unfold inM inMTo
  rw [List.all_eq_true]
  constructor
  · intro h i j hi hj hr
    have h1 := (inB_iff (isSet_mkS _)).1 (h i (List.mem_range.2 hi)) j hj (by rw [testBit_mkS, hr, decide_eq_true hj]; rfl)
    rw [testBit_mkS, decide_eq_true hj] at h1
    simpa using h1
  · intro h i hi
    have hi := List.mem_range.1 hi
    rw [inB_iff (isSet_mkS _)]
    intro j hj hb
    rw [testBit_mkS, decide_eq_true hj] at hb ⊢
    simp only [Bool.true_and] at hb ⊢
    exact h i j hi hj hb
theorem hasR_nat (R : Mat) (i j : Nat) (hi : i < 64) (hj : j < 64) : hasR R (i : Int) (j : Int) = R i j := by
  unfold hasR mayB
  rw [Int.toNat_natCast, hasB_mkS _ _ hj, decide_eq_true (by omega), Bool.true_and]
/-- What least.Of answers. -/
def LeastIs (h : List TxnV) (x : Nat) (L : List Int) (R : Mat) : Prop := ∀ i j, i < 64 → j < 64 → (R i j = true ↔ Must (startM h (x : Int) (chainR L)) (chainR L) (trB x) (pfB x) i j)
/-- Who asks more sees as much. -/
theorem least_mono {h : List TxnV} {x y : Nat} {L : List Int} {R S : Mat} (hx : x < 9223372036854775808) (hy : y < 9223372036854775808) (hb : ∀ k, x.testBit k = true → y.testBit k = true) (hR : LeastIs h x L R) (hS : LeastIs h y L S) : inM R S = true := by
  rw [inM_iff]
  intro i j hi hj hr
  refine (hS i j hi hj).2 (must_mono ?_ ?_ ?_ ((hR i j hi hj).1 hr))
  · intro i j hs
    rw [startM_iff h x hx, baseM_iff h x hx] at hs
    rw [startM_iff h y hy, baseM_iff h y hy]
    rcases hs with (hs | ⟨h1, h2⟩ | ⟨h1, h2⟩) | ⟨h1, h2⟩ | ⟨h1, h2⟩
    · exact .inl (.inl hs)
    · exact .inl (.inr (.inl ⟨hb _ h1, h2⟩))
    · exact .inl (.inr (.inr ⟨hb _ h1, h2⟩))
    · exact .inr (.inl ⟨hb _ h1, h2⟩)
    · exact .inr (.inr ⟨hb _ h1, h2⟩)
  · rw [trB_bit x hx, trB_bit y hy]; exact hb 1
  · rw [pfB_bit x hx, pfB_bit y hy]; exact hb 2
/-- What follows of what is asked adds nothing, where all that is seen comes ahead. -/
theorem least_closed {h : List TxnV} {x : Nat} {L : List Int} {R S : Mat} (hc : checkI h = 0) (hn : L.Nodup) (hx : x < 9223372036854775808) (hR : LeastIs h x L R) (hS : LeastIs h (clI (x : Int)) L S) (hin : inM R (chainR L) = true) : rowsA R = rowsA S := by
  have hy : clI (x : Int) < 9223372036854775808 := by have := clI_lt (x : Int); omega
  obtain ⟨b0, b1, b2, b3, b4, b5⟩ := clI_bits x
  have hin := (inM_iff _ _).1 hin
  have hst := (inM_iff _ _).1 (ses_in_tim hc)
  refine rowsA_congr fun i j hi hj => ?_
  rw [Bool.eq_iff_iff, hR i j hi hj, hS i j hi hj]
  constructor
  · intro h1
    refine must_mono ?_ ?_ ?_ h1
    · intro i j hs
      rw [startM_iff h x hx, baseM_iff h x hx] at hs
      rw [startM_iff h _ hy, baseM_iff h _ hy, b0, b3, b4, b5]
      rcases hs with (hs | ⟨h1, h2⟩ | ⟨h1, h2⟩) | ⟨h1, h2⟩ | ⟨h1, h2⟩
      · exact .inl (.inl hs)
      · exact .inl (.inr (.inl ⟨by rw [h1]; rfl, h2⟩))
      · exact .inl (.inr (.inr ⟨h1, h2⟩))
      · exact .inr (.inl ⟨by rw [h1]; rfl, h2⟩)
      · exact .inr (.inr ⟨h1, h2⟩)
    · rw [trB_bit x hx, trB_bit _ hy, b1]; intro e; rw [e]; rfl
    · rw [pfB_bit x hx, pfB_bit _ hy, b2]; intro e; rw [e]; rfl
  · intro h1
    refine must_closed (tot := x.testBit 4) (fun i j hi hj hm => hin i j hi hj ((hR i j hi hj).2 hm)) (fun i m j _ _ _ h1 h2 => chain_trans hn h1 h2) ?_ ?_ ?_ ?_ h1 hi hj
    · intro ht i j _ _ ha
      rw [startM_iff h x hx]
      exact .inr (.inr ⟨ht, ha⟩)
    · intro i j hi hj hs
      rw [startM_iff h _ hy, baseM_iff h _ hy, b0, b3, b4, b5] at hs
      rw [startM_iff h x hx, baseM_iff h x hx]
      rcases hs with (hs | ⟨h1, h2⟩ | ⟨h1, h2⟩) | ⟨h1, h2⟩ | ⟨h1, h2⟩
      · exact .inl (.inl (.inl hs))
      · rcases (Bool.or_eq_true _ _).mp h1 with h1 | h1
        · exact .inl (.inl (.inr (.inl ⟨h1, h2⟩)))
        · exact .inl (.inl (.inr (.inr ⟨h1, hst i j hi hj h2⟩)))
      · exact .inl (.inl (.inr (.inr ⟨h1, h2⟩)))
      · rcases (Bool.or_eq_true _ _).mp h1 with h1 | h1
        · exact .inl (.inr (.inl ⟨h1, h2⟩))
        · exact .inr ⟨h1, rivM_in h _ i j h2⟩
      · exact .inr ⟨h1, h2⟩
    · rw [trB_bit x hx, pfB_bit x hx, trB_bit _ hy, b1]
      intro e
      rcases (Bool.or_eq_true _ _).mp e with e | e
      · exact .inl e
      · rcases (Bool.or_eq_true _ _).mp e with e | e
        · exact .inr (.inl e)
        · exact .inr (.inr e)
    · rw [pfB_bit x hx, pfB_bit _ hy, b2]
      intro e
      exact (Bool.or_eq_true _ _).mp e
end Go.Proofs.YtfancjmhdbaoeaaGreatDoor

namespace Go.Proofs.YtfancjmhdbaoeaaGreatDoor
set_option maxRecDepth 100000
open Go.RowKit

theorem bitA_pow : ∀ m : Fin 6, bitA m.val = 2 ^ m.val := by decide
theorem keptTo_bit (M : Nat → Mat) (V : Mat) (k : Nat) : ∀ m, m ≤ 6 → (keptTo M V m).testBit k = (decide (k < m) && inM (M k) V)
  | 0, _ => by unfold keptTo; simp
  | m + 1, h => by
    have ih := keptTo_bit M V k m (by omega)
    have e := bitA_pow ⟨m, by omega⟩
    simp only at e
    rw [keptTo_succ]
    by_cases hk : k = m
    · subst hk
      rw [decide_eq_false (Nat.lt_irrefl k), Bool.false_and] at ih
      rw [decide_eq_true (Nat.lt_succ_self k), Bool.true_and]
      cases hM : inM (M k) V with
      | true => rw [if_pos rfl, Nat.testBit_or, e, Nat.testBit_two_pow_self, Bool.or_true]
      | false => rw [if_neg (by decide)]; exact ih
    · have hd : decide (k < m + 1) = decide (k < m) := by rw [decide_eq_decide]; omega
      rw [hd]
      split
      · rw [Nat.testBit_or, e, Nat.testBit_two_pow_of_ne (by omega), Bool.or_false]; exact ih
      · exact ih
theorem kept_bit (h : List TxnV) (l : List Int) (V : Mat) {k : Nat} (hk : k < 6) : (keptN h l V).testBit k = inM (keptM h (chainR l) V k) V := by
  unfold keptN
  rw [keptTo_bit _ _ _ 6 (Nat.le_refl 6), decide_eq_true hk, Bool.true_and]
theorem lack_iff (a b : Nat) : lackN a b = 0 ↔ ∀ k, a.testBit k = true → b.testBit k = true := by
  unfold lackN
  constructor
  · intro e k hk
    have t := congrArg (fun x => Nat.testBit x k) e
    simp only [Nat.testBit_xor, Nat.testBit_and, Nat.zero_testBit, hk, Bool.true_and] at t
    cases hb : b.testBit k
    · rw [hb] at t; exact absurd t (by decide)
    · rfl
  · intro H
    apply Nat.eq_of_testBit_eq
    intro k
    rw [Nat.testBit_xor, Nat.testBit_and, Nat.zero_testBit]
    cases ha : a.testBit k
    · rfl
    · rw [H k ha]; rfl
theorem inM_trans {A B C : Mat} (h1 : inM A B = true) (h2 : inM B C = true) : inM A C = true := by
  rw [inM_iff] at *
  exact fun i j hi hj h => h2 i j hi hj (h1 i j hi hj h)
end Go.Proofs.YtfancjmhdbaoeaaGreatDoor

namespace Go.Proofs.YtfancjmhdbaoeaaGreatDoor
set_option maxRecDepth 100000
open Go.RowKit

/-- All that stand in a table by some numbers. -/
def joinL (F : Nat → Nat) (l : List Nat) : Nat := l.foldl (fun s k => s ||| F k) 0
def joinN (F : Nat → Nat) (s : Nat) : Nat := joinL F (lst s)
theorem joinL_nil (F : Nat → Nat) : joinL F [] = 0 := rfl
theorem joinF_bit (F : Nat → Nat) (j : Nat) : ∀ (l : List Nat) (s : Nat), (l.foldl (fun s k => s ||| F k) s).testBit j = (s.testBit j || l.any fun k => (F k).testBit j)
  | [], s => by simp
  | k :: l, s => by rw [List.foldl_cons, joinF_bit F j l, Nat.testBit_or, List.any_cons, Bool.or_assoc]
theorem joinL_bit (F : Nat → Nat) (l : List Nat) (j : Nat) : (joinL F l).testBit j = l.any fun k => (F k).testBit j := by
  unfold joinL; rw [joinF_bit]; simp
theorem joinL_set {F : Nat → Nat} {l : List Nat} (h : ∀ k ∈ l, IsSet (F k)) : IsSet (joinL F l) := by
  apply isSet_of_bits
  intro i hi
  rw [joinL_bit, List.any_eq_false]
  intro k hk
  rw [(h k hk).high hi]; simp
theorem joinN_set {F : Nat → Nat} {s : Nat} (h : ∀ k, k < 64 → IsSet (F k)) : IsSet (joinN F s) := joinL_set fun k hk => h k (mem_lst.1 hk).1
theorem joinN_iff {F : Nat → Nat} {s : Nat} {j : Nat} : (joinN F s).testBit j = true ↔ ∃ k, k < 64 ∧ s.testBit k = true ∧ (F k).testBit j = true := by
  unfold joinN
  rw [joinL_bit, List.any_eq_true]
  exact ⟨fun ⟨k, hk, hj⟩ => ⟨k, (mem_lst.1 hk).1, (mem_lst.1 hk).2, hj⟩, fun ⟨k, h1, h2, h3⟩ => ⟨k, mem_lst.2 ⟨h1, h2⟩, h3⟩⟩
theorem joinN_congr {F G : Nat → Nat} {s : Nat} (h : ∀ k, k < 64 → s.testBit k = true → F k = G k) : joinN F s = joinN G s := by
  apply Nat.eq_of_testBit_eq
  intro j
  rw [Bool.eq_iff_iff, joinN_iff, joinN_iff]
  exact ⟨fun ⟨k, h1, h2, h3⟩ => ⟨k, h1, h2, by rw [← h k h1 h2]; exact h3⟩, fun ⟨k, h1, h2, h3⟩ => ⟨k, h1, h2, by rw [h k h1 h2]; exact h3⟩⟩
/-- Those of a row, the last one first, as a set. -/
def plS : List Nat → Nat
  | [] => 0
  | i :: r => withS (plS r) (i : Int)
theorem plS_set : ∀ r, IsSet (plS r)
  | [] => by unfold plS IsSet; omega
  | i :: r => isSet_withS (plS_set r)
theorem plS_bit (j : Nat) : ∀ (r : List Nat), (∀ i ∈ r, i < 64) → (plS r).testBit j = decide (j ∈ r)
  | [], _ => by unfold plS; simp
  | i :: r, h => by
    have h1 : decide (0 ≤ (i : Int) ∧ (i : Int) < 64) = true := by have := h i (List.mem_cons_self ..); simp; omega
    unfold plS
    rw [testBit_withS, plS_bit j r (fun a ha => h a (List.mem_cons_of_mem _ ha)), h1, Int.toNat_natCast, Bool.true_and, Bool.eq_iff_iff]
    simp only [Bool.or_eq_true, decide_eq_true_eq, List.mem_cons]
    exact ⟨fun q => q.elim .inr (fun e => .inl e.symm), fun q => q.elim (fun e => .inr e.symm) .inl⟩
theorem plS_pop {i : Nat} {r : List Nat} (hi : i ∉ r) (h : ∀ a ∈ i :: r, a < 64) : woS (plS (i :: r)) (i : Int) = plS r := by
  apply Nat.eq_of_testBit_eq
  intro j
  have h1 : decide (0 ≤ (i : Int) ∧ (i : Int) < 64) = true := by have := h i (List.mem_cons_self ..); simp; omega
  rw [testBit_woS, plS_bit j _ h, plS_bit j r (fun a ha => h a (List.mem_cons_of_mem _ ha)), h1, Int.toNat_natCast, Bool.true_and, Bool.eq_iff_iff]
  simp only [Bool.and_eq_true, decide_eq_true_eq, List.mem_cons, Bool.not_eq_true', decide_eq_false_iff_not]
  constructor
  · rintro ⟨rfl | q, hne⟩
    · exact (hne rfl).elim
    · exact q
  · intro q
    exact ⟨.inr q, fun e => hi (by rw [e]; exact q)⟩
/-- Whom one would see, step by step: what it must see, all, who writes to the same key, whom those see, who is ahead of those. -/
def wld1 (b pl C : Nat) : Nat := if C.testBit 4 then b ||| pl else b
def wld2 (b pl rv C : Nat) : Nat := if C.testBit 3 then wld1 b pl C ||| (rv &&& pl) else wld1 b pl C
def wld3 (b pl rv C : Nat) (sF : Nat → Nat) : Nat := if C.testBit 1 then wld2 b pl rv C ||| joinN sF (wld2 b pl rv C) else wld2 b pl rv C
def wld4 (b pl rv C : Nat) (sF aF : Nat → Nat) : Nat := if C.testBit 2 then wld3 b pl rv C sF ||| joinN aF (wld3 b pl rv C sF) else wld3 b pl rv C sF
section
variable {b pl rv C : Nat} {sF aF : Nat → Nat}
theorem wld1_set (hb : IsSet b) (hp : IsSet pl) : IsSet (wld1 b pl C) := by unfold wld1; split; exact isSet_or hb hp; exact hb
theorem wld2_set (hb : IsSet b) (hp : IsSet pl) (hr : IsSet rv) : IsSet (wld2 b pl rv C) := by unfold wld2; split; exact isSet_or (wld1_set hb hp) (isSet_and hr); exact wld1_set hb hp
theorem wld3_set (hb : IsSet b) (hp : IsSet pl) (hr : IsSet rv) (hs : ∀ k, k < 64 → IsSet (sF k)) : IsSet (wld3 b pl rv C sF) := by unfold wld3; split; exact isSet_or (wld2_set hb hp hr) (joinN_set hs); exact wld2_set hb hp hr
theorem wld4_set (hb : IsSet b) (hp : IsSet pl) (hr : IsSet rv) (hs : ∀ k, k < 64 → IsSet (sF k)) (ha : ∀ k, k < 64 → IsSet (aF k)) : IsSet (wld4 b pl rv C sF aF) := by unfold wld4; split; exact isSet_or (wld3_set hb hp hr hs) (joinN_set ha); exact wld3_set hb hp hr hs
/-- Whom one would see is placed, as far as whom it must see is. -/
theorem wld1_in (hb : ∀ j, b.testBit j = true → pl.testBit j = true) {j : Nat} (h : (wld1 b pl C).testBit j = true) : pl.testBit j = true := by
  unfold wld1 at h
  split at h
  · rw [Nat.testBit_or, Bool.or_eq_true] at h; exact h.elim (hb j) id
  · exact hb j h
theorem wld2_in (hb : ∀ j, b.testBit j = true → pl.testBit j = true) {j : Nat} (h : (wld2 b pl rv C).testBit j = true) : pl.testBit j = true := by
  unfold wld2 at h
  split at h
  · rw [Nat.testBit_or, Bool.or_eq_true, Nat.testBit_and, Bool.and_eq_true] at h; exact h.elim (wld1_in hb) And.right
  · exact wld1_in hb h
theorem wld3_in (hb : ∀ j, b.testBit j = true → pl.testBit j = true) (hs : ∀ k j, pl.testBit k = true → (sF k).testBit j = true → pl.testBit j = true) {j : Nat} (h : (wld3 b pl rv C sF).testBit j = true) : pl.testBit j = true := by
  unfold wld3 at h
  split at h
  · rw [Nat.testBit_or, Bool.or_eq_true, joinN_iff] at h
    rcases h with h | ⟨k, _, h1, h2⟩
    · exact wld2_in hb h
    · exact hs k j (wld2_in hb h1) h2
  · exact wld2_in hb h
theorem wld4_in (hb : ∀ j, b.testBit j = true → pl.testBit j = true) (hs : ∀ k j, pl.testBit k = true → (sF k).testBit j = true → pl.testBit j = true) (ha : ∀ k j, pl.testBit k = true → (aF k).testBit j = true → pl.testBit j = true) {j : Nat} (h : (wld4 b pl rv C sF aF).testBit j = true) : pl.testBit j = true := by
  unfold wld4 at h
  split at h
  · rw [Nat.testBit_or, Bool.or_eq_true, joinN_iff] at h
    rcases h with h | ⟨k, _, h1, h2⟩
    · exact wld3_in hb hs h
    · exact ha k j (wld3_in hb hs h1) h2
  · exact wld3_in hb hs h
theorem wld3_congr {sG : Nat → Nat} (hb : ∀ j, b.testBit j = true → pl.testBit j = true) (h : ∀ k, k < 64 → pl.testBit k = true → sF k = sG k) : wld3 b pl rv C sF = wld3 b pl rv C sG := by
  unfold wld3
  rw [joinN_congr fun k hk hb2 => h k hk (wld2_in hb hb2)]
theorem wld4_congr {sG aG : Nat → Nat} (hb : ∀ j, b.testBit j = true → pl.testBit j = true) (h : ∀ k, k < 64 → pl.testBit k = true → sF k = sG k ∧ aF k = aG k) (hs : ∀ k j, pl.testBit k = true → (sF k).testBit j = true → pl.testBit j = true) : wld4 b pl rv C sF aF = wld4 b pl rv C sG aG := by
  have e : wld3 b pl rv C sF = wld3 b pl rv C sG := wld3_congr hb fun k hk hp => (h k hk hp).1
  unfold wld4
  rw [← e, joinN_congr (F := aF) (G := aG) fun k hk hb2 => (h k hk (wld3_in hb hs hb2)).2]
end
/-- What one must see, whatever the order is. -/
def baseN (h : List TxnV) (C i : Nat) : Nat := seeTo (baseM h (C : Int)) (i : Int) 64
theorem baseN_set (h : List TxnV) (C i : Nat) : IsSet (baseN h C i) := seeTo_set _ _ _
/-- Of each of a row, the last one first: who is ahead of it, and whom it sees. -/
def aheadL : List Nat → Nat → Nat
  | [], _ => 0
  | i :: r, k => if k = i then plS r else aheadL r k
def plSee (h : List TxnV) (C : Nat) : List Nat → Nat → Nat
  | [], _ => 0
  | i :: r, k => if k = i then wld4 (baseN h C i) (plS r) (rivN h i) C (plSee h C r) (aheadL r) else plSee h C r k
def nextN (h : List TxnV) (C : Nat) (r : List Nat) (i : Nat) : Nat := wld4 (baseN h C i) (plS r) (rivN h i) C (plSee h C r) (aheadL r)
theorem aheadL_set : ∀ (r : List Nat) (k : Nat), IsSet (aheadL r k)
  | [], _ => by unfold aheadL IsSet; omega
  | i :: r, k => by
    unfold aheadL
    split
    · exact plS_set r
    · exact aheadL_set r k
theorem plSee_set (h : List TxnV) (C : Nat) : ∀ (r : List Nat) (k : Nat), IsSet (plSee h C r k)
  | [], _ => by unfold plSee IsSet; omega
  | i :: r, k => by
    unfold plSee
    split
    · exact wld4_set (baseN_set h C i) (plS_set r) (rivN_set h i) (fun k _ => plSee_set h C r k) (fun k _ => aheadL_set r k)
    · exact plSee_set h C r k
/-- Would one read of a key what the last one wrote that it sees? -/
def readW (h : List TxnV) (aF : Nat → Nat) (seen : Nat) (r : Int × Int) : Nat := if 0 ≤ r.2 then lackN (seen &&& wrtN h r.1) (withS (aF r.2.toNat) r.2) else seen &&& wrtN h r.1
def readP (h : List TxnV) (aF : Nat → Nat) (seen : Nat) (r : Int × Int) : Bool := decide (readW h aF seen r = 0)
def readsP (h : List TxnV) (aF : Nat → Nat) (seen i : Nat) : Bool := (readsOf h i).all (readP h aF seen)
/-- May one come next? -/
def tryP (h : List TxnV) (C : Nat) (r : List Nat) (i : Nat) : Bool := decide (i < h.length) && (!decide (i ∈ r) && (inB (baseN h C i) (plS r) && readsP h (aheadL r) (nextN h C r i) i))
def tryI (h : List TxnV) (C : Nat) (r : List Nat) (i : Int) : Bool := decide (0 ≤ i) && tryP h C r i.toNat
/-- The cells of the block, one by one. -/
def plF (B C : Nat) (vb vr : Value) (pl : Nat) (aF sF : Nat → Nat) (i : Nat) : Value :=
  if i = 0 then .pointer (some ⟨B, 0, none⟩) else if i = 1 then .int .i64 (C : Int) else if i = 2 then vb else if i = 3 then vr else if i = 4 then .int .u64 (pl : Int) else
  if i < 69 then .int .u64 ((aF (i - 5) : Nat) : Int) else .int .u64 ((sF (i - 69) : Nat) : Int)
/-- The block that holds a state. -/
def PlAt (w : World) (S B C : Nat) (vb vr : Value) (pl : Nat) (aF sF : Nat → Nat) : Prop := ∀ i, i < 133 → w.cell? ⟨S, i, none⟩ = some (plF B C vb vr pl aF sF i) ∧ w.frozen? ⟨S, i, none⟩ = false
section
variable {w : World} {S B C : Nat} {vb vr : Value} {pl : Nat} {aF sF : Nat → Nat}
theorem PlAt.lt (h : PlAt w S B C vb vr pl aF sF) : S < w.heap.size := block_lt (h 0 (by omega)).1
theorem PlAt.below {w' : World} {B' : Nat} (h : PlAt w S B C vb vr pl aF sF) (hb : Below B' w w') (hB : S < B') : PlAt w' S B C vb vr pl aF sF := fun i hi => by
  rw [hb.cell (p := ⟨S, i, none⟩) hB, hb.frozen (p := ⟨S, i, none⟩) hB]; exact h i hi
theorem PlAt.grown {w' : World} {row : Option Nat} (h : PlAt w S B C vb vr pl aF sF) (hg : w.grownBy w' row) (hne : some S ≠ row) : PlAt w' S B C vb vr pl aF sF := fun i hi => by
  obtain ⟨h1, h2⟩ := h i hi
  have hb := hg.block S h.lt hne
  have e1 : w'.cell? ⟨S, i, none⟩ = w.cell? ⟨S, i, none⟩ := by simp only [World.cell?]; rw [hb]
  have e2 : w'.frozen? ⟨S, i, none⟩ = w.frozen? ⟨S, i, none⟩ := by simp only [World.frozen?]; rw [hb]
  rw [e1, e2]; exact ⟨h1, h2⟩
theorem PlAt.cO (h : PlAt w S B C vb vr pl aF sF) : w.cell? ⟨S, 0, none⟩ = some (.pointer (some ⟨B, 0, none⟩)) := (h 0 (by omega)).1
theorem PlAt.cC (h : PlAt w S B C vb vr pl aF sF) : w.cell? ⟨S, 1, none⟩ = some (.int .i64 (C : Int)) := (h 1 (by omega)).1
theorem PlAt.cB (h : PlAt w S B C vb vr pl aF sF) : w.cell? ⟨S, 2, none⟩ = some vb := (h 2 (by omega)).1
theorem PlAt.cR (h : PlAt w S B C vb vr pl aF sF) : w.cell? ⟨S, 3, none⟩ = some vr := (h 3 (by omega)).1
theorem PlAt.cP (h : PlAt w S B C vb vr pl aF sF) : w.cell? ⟨S, 4, none⟩ = some (.int .u64 (pl : Int)) := (h 4 (by omega)).1
theorem PlAt.cA (h : PlAt w S B C vb vr pl aF sF) {k : Nat} (hk : k < 64) : w.cell? ⟨S, 5 + k, none⟩ = some (.int .u64 ((aF k : Nat) : Int)) := by
  rw [(h (5 + k) (by omega)).1]; unfold plF
  rw [if_neg (by omega), if_neg (by omega), if_neg (by omega), if_neg (by omega), if_neg (by omega), if_pos (by omega), Nat.add_sub_cancel_left]
theorem PlAt.cS (h : PlAt w S B C vb vr pl aF sF) {k : Nat} (hk : k < 64) : w.cell? ⟨S, 69 + k, none⟩ = some (.int .u64 ((sF k : Nat) : Int)) := by
  rw [(h (69 + k) (by omega)).1]; unfold plF
  rw [if_neg (by omega), if_neg (by omega), if_neg (by omega), if_neg (by omega), if_neg (by omega), if_neg (by omega), Nat.add_sub_cancel_left]
theorem PlAt.free (h : PlAt w S B C vb vr pl aF sF) {i : Nat} (hi : i < 133) : w.frozen? ⟨S, i, none⟩ = false := (h i hi).2
theorem PlAt.put (h : PlAt w S B C vb vr pl aF sF) (k : Nat) (v : Value) {vb' vr' : Value} {pl' : Nat} {aF' sF' : Nat → Nat} (h1 : plF B C vb' vr' pl' aF' sF' k = v)
    (h2 : ∀ i, i < 133 → i ≠ k → plF B C vb' vr' pl' aF' sF' i = plF B C vb vr pl aF sF i) : PlAt (w.setCell ⟨S, k, none⟩ v) S B C vb' vr' pl' aF' sF' := fun i hi => by
  refine ⟨?_, by rw [World.frozen?_setCell]; exact (h i hi).2⟩
  by_cases e : i = k
  · subst e
    rw [World.cell?_setCell_same _ _ _ (h i hi).1, h1]
  · have hne : (⟨S, k, none⟩ : Addr) ≠ ⟨S, i, none⟩ := by
      intro q
      injection q with _ q2
      exact e q2.symm
    rw [World.cell?_setCell_other _ _ _ _ hne, h2 i hi e]
    exact (h i hi).1
theorem PlAt.setB (h : PlAt w S B C vb vr pl aF sF) (v : Value) : PlAt (w.setCell ⟨S, 2, none⟩ v) S B C v vr pl aF sF := h.put 2 v rfl (fun i _ e => by unfold plF; simp [e])
theorem PlAt.setR (h : PlAt w S B C vb vr pl aF sF) (v : Value) : PlAt (w.setCell ⟨S, 3, none⟩ v) S B C vb v pl aF sF := h.put 3 v rfl (fun i _ e => by unfold plF; simp [e])
theorem PlAt.setP (h : PlAt w S B C vb vr pl aF sF) (s : Nat) : PlAt (w.setCell ⟨S, 4, none⟩ (.int .u64 (s : Int))) S B C vb vr s aF sF := h.put 4 _ rfl (fun i _ e => by unfold plF; simp [e])
/-- A table with one number anew. -/
def updN (F : Nat → Nat) (i s : Nat) : Nat → Nat := fun k => if k = i then s else F k
theorem PlAt.setA (h : PlAt w S B C vb vr pl aF sF) {k : Nat} (hk : k < 64) (s : Nat) : PlAt (w.setCell ⟨S, 5 + k, none⟩ (.int .u64 (s : Int))) S B C vb vr pl (updN aF k s) sF := h.put (5 + k) _
  (by unfold plF updN; rw [if_neg (by omega), if_neg (by omega), if_neg (by omega), if_neg (by omega), if_neg (by omega), if_pos (by omega), if_pos (by omega)])
  (fun i _ e => by
    unfold plF updN
    by_cases h5 : i < 5
    · have : i = 0 ∨ i = 1 ∨ i = 2 ∨ i = 3 ∨ i = 4 := by omega
      rcases this with rfl | rfl | rfl | rfl | rfl <;> rfl
    · have : ¬ i - 5 = k := by omega
      simp only [this, if_false])
theorem PlAt.setS (h : PlAt w S B C vb vr pl aF sF) {k : Nat} (hk : k < 64) (s : Nat) : PlAt (w.setCell ⟨S, 69 + k, none⟩ (.int .u64 (s : Int))) S B C vb vr pl aF (updN sF k s) := h.put (69 + k) _
  (by unfold plF updN; rw [if_neg (by omega), if_neg (by omega), if_neg (by omega), if_neg (by omega), if_neg (by omega), if_neg (by omega), if_pos (by omega)])
  (fun i _ e => by
    unfold plF updN
    by_cases h5 : i < 69
    · by_cases h6 : i < 5
      · have : i = 0 ∨ i = 1 ∨ i = 2 ∨ i = 3 ∨ i = 4 := by omega
        rcases this with rfl | rfl | rfl | rfl | rfl <;> rfl
      · simp only [h5, if_true]
    · have : ¬ i - 69 = k := by omega
      simp only [this, if_false])
end
/-- A state: of a history, what is asked, and those that are placed, the last one first. What lay there ahead of it is W. -/
structure PlIs (W : World) (S B b : Nat) (h : List TxnV) (C : Nat) (r : List Nat) (vb vr : Value) (aF sF : Nat → Nat) (w : World) : Prop where
  o : OrdIs W B b h
  t : Tab W
  bel : Below W.heap.size W w
  low : W.heap.size ≤ S
  a : PlAt w S B C vb vr (plS r) aF sF
  ba : w.ownsRow (S + 1) 35 1 vb h.length ((List.range h.length).map fun i => .int .u64 ((baseN h C i : Nat) : Int))
  rw : w.ownsRow (S + 1) 3 1 vr r.length (r.reverse.map fun i : Nat => .int .i64 (i : Int))
  ne : ∀ g, vb.ownBlock = some g → vr.ownBlock ≠ some g
  set : ∀ k, k < 64 → IsSet (aF k) ∧ IsSet (sF k)
  eq : ∀ k ∈ r, aF k = aheadL r k ∧ sF k = plSee h C r k
  nd : r.Nodup
  lt : ∀ k ∈ r, k < h.length
  base : ∀ k ∈ r, ∀ j, (baseN h C k).testBit j = true → (aheadL r k).testBit j = true
/-- A step that changes a state alone, and lays new blocks. -/
structure PlStep (S : Nat) (vr vr' : Value) (w w' : World) : Prop where
  os : w'.os = w.os
  tape : w'.tape = w.tape
  output : w'.output = w.output
  size : w.heap.size ≤ w'.heap.size
  block : ∀ k, k < w.heap.size → k ≠ S → vr.ownBlock ≠ some k → w'.heap[k]? = w.heap[k]?
  own : ∀ g, vr'.ownBlock = some g → vr.ownBlock = some g ∨ w.heap.size ≤ g
theorem PlStep.of_below {S : Nat} {vr : Value} {w w' : World} (hb : Below w.heap.size w w') : PlStep S vr vr w w' := ⟨hb.os, hb.tape, hb.output, hb.size, fun k hk _ _ => hb.block k hk, fun _ hg => .inl hg⟩
theorem PlStep.refl (S : Nat) (vr : Value) (w : World) : PlStep S vr vr w w := .of_below (Below.refl _ _)
theorem PlStep.trans {S : Nat} {v1 v2 v3 : Value} {w1 w2 w3 : World} (h : PlStep S v1 v2 w1 w2) (k : PlStep S v2 v3 w2 w3) : PlStep S v1 v3 w1 w3 := by
  refine ⟨k.os.trans h.os, k.tape.trans h.tape, k.output.trans h.output, Nat.le_trans h.size k.size, fun j hj hs hv => ?_, fun g hg => ?_⟩
  · refine (k.block j (Nat.lt_of_lt_of_le hj h.size) hs (fun e => ?_)).trans (h.block j hj hs hv)
    rcases h.own j e with q | q
    · exact hv q
    · omega
  · rcases k.own g hg with q | q
    · exact h.own g q
    · exact .inr (Nat.le_trans h.size q)
/-- A slice apart from a state. -/
def RowX (S : Nat) (vr : Value) (w : World) (v : Value) (n size : Nat) (cs : List Value) : Prop := Row w v n size cs ∧ (0 < n → 0 < size → ∀ g, v.ownBlock = some g → g ≠ S ∧ vr.ownBlock ≠ some g)
theorem RowX.step {S : Nat} {v1 v2 : Value} {w w' : World} {v : Value} {n size : Nat} {cs : List Value} (h : RowX S v1 w v n size cs) (hs : 0 < size) (k : PlStep S v1 v2 w w') : RowX S v2 w' v n size cs := by
  obtain ⟨⟨hl, ao, cap, rfl, hm, hno, hc⟩, hx⟩ := h
  refine ⟨⟨hl, ao, cap, rfl, hm, hno, fun hn => ?_⟩, fun hn h0 g hg => ?_⟩
  · obtain ⟨b, off, rfl, hcell⟩ := hc hn
    obtain ⟨x1, x2⟩ := hx hn hs b rfl
    refine ⟨b, off, rfl, fun i hi => ?_⟩
    have h1 := hcell i hi
    have h2 : cs[i]? = some cs[i] := List.getElem?_eq_getElem (by omega)
    have hlt := block_lt (h1.trans h2)
    rw [← h1]
    show w'.cell? _ = w.cell? _
    simp only [World.cell?]
    rw [k.block b hlt x1 x2]
  · obtain ⟨b, off, rfl, hcell⟩ := hc hn
    obtain rfl : b = g := by injection hg
    obtain ⟨x1, x2⟩ := hx hn hs b rfl
    have hpos : 0 < n * size := Nat.mul_pos hn hs
    have h1 := hcell 0 hpos
    have h2 : cs[0]? = some cs[0] := List.getElem?_eq_getElem (by omega)
    have hlt := block_lt (h1.trans h2)
    refine ⟨x1, fun e => ?_⟩
    rcases k.own b e with q | q
    · exact x2 q
    · have : b < w.heap.size := hlt
      omega
section
variable {W : World} {S B b : Nat} {h : List TxnV} {C : Nat} {r : List Nat} {vb vr : Value} {aF sF : Nat → Nat} {w w' : World}
theorem pl_far {base : Nat} {e : TypeId} {size n : Nat} {v : Value} {xs : List Value} (hr : w.ownsRow base e size v n xs) {p : Addr} (hp : p.block < base) (u : Value) : (w.setCell p u).ownsRow base e size v n xs :=
  ownsRow_setCell_other hr (fun e => by have := (hr.lt _ e).1; omega) u
theorem PlIs.below (p : PlIs W S B b h C r vb vr aF sF w) (hb : Below w.heap.size w w') : PlIs W S B b h C r vb vr aF sF w' :=
  ⟨p.o, p.t, p.bel.trans (hb.mono p.bel.size), p.low, p.a.below hb p.a.lt, owns_below p.ba hb, owns_below p.rw hb, p.ne, p.set, p.eq, p.nd, p.lt, p.base⟩
theorem PlIs.ord (p : PlIs W S B b h C r vb vr aF sF w) : OrdIs w B b h := p.o.below p.bel
theorem PlIs.tab (p : PlIs W S B b h C r vb vr aF sF w) : Tab w := p.t.below p.bel (p.t.pos)
/-- All that are ahead of one, and all that it sees, are placed. -/
theorem ahead_in {r : List Nat} (hlt : ∀ k ∈ r, k < 64) : ∀ {k j : Nat}, (aheadL r k).testBit j = true → (plS r).testBit j = true := by
  induction r with
  | nil => intro k j hj; unfold aheadL at hj; simp at hj
  | cons i r ih =>
    intro k j hj
    have hlt' : ∀ a ∈ r, a < 64 := fun a ha => hlt a (List.mem_cons_of_mem _ ha)
    have : (plS r).testBit j = true := by
      unfold aheadL at hj
      split at hj
      · exact hj
      · exact ih hlt' hj
    rw [plS_bit j _ hlt', decide_eq_true_eq] at this
    rw [plS_bit j _ hlt, decide_eq_true_eq]
    exact List.mem_cons_of_mem _ this
theorem base_tail {i : Nat} (hi : i ∉ r) (hb : ∀ k ∈ i :: r, ∀ j, (baseN h C k).testBit j = true → (aheadL (i :: r) k).testBit j = true) : (∀ k ∈ r, ∀ j, (baseN h C k).testBit j = true → (aheadL r k).testBit j = true) ∧ ∀ j, (baseN h C i).testBit j = true → (plS r).testBit j = true := by
  constructor
  · intro k hk j hj
    have := hb k (List.mem_cons_of_mem _ hk) j hj
    unfold aheadL at this
    rwa [if_neg (fun e => hi (by rw [← e]; exact hk))] at this
  · intro j hj
    have := hb i (List.mem_cons_self ..) j hj
    unfold aheadL at this
    rwa [if_pos rfl] at this
/-- Whom one sees is ahead of it. -/
theorem sees_ahead {r : List Nat} (hlt : ∀ k ∈ r, k < 64) (hnd : r.Nodup) (hb : ∀ k ∈ r, ∀ j, (baseN h C k).testBit j = true → (aheadL r k).testBit j = true) : ∀ {k j : Nat}, (plSee h C r k).testBit j = true → (aheadL r k).testBit j = true := by
  induction r with
  | nil => intro k j hj; unfold plSee at hj; simp at hj
  | cons i r ih =>
    intro k j hj
    have hlt' : ∀ a ∈ r, a < 64 := fun a ha => hlt a (List.mem_cons_of_mem _ ha)
    obtain ⟨hi, hnd'⟩ := List.nodup_cons.1 hnd
    obtain ⟨hb', hbi⟩ := base_tail hi hb
    unfold plSee at hj
    unfold aheadL
    split at hj
    · rename_i e
      rw [if_pos e]
      exact wld4_in hbi (fun k j _ hj => ahead_in hlt' (ih hlt' hnd' hb' hj)) (fun k j _ hj => ahead_in hlt' hj) hj
    · rename_i e
      rw [if_neg e]
      exact ih hlt' hnd' hb' hj
end
end Go.Proofs.YtfancjmhdbaoeaaGreatDoor

namespace Go.Proofs.YtfancjmhdbaoeaaGreatDoor
set_option maxRecDepth 100000
open Go.RowKit

theorem hasB_nat {s : Nat} {n : Nat} (hn : n < 64) : hasB s (n : Int) = s.testBit n := by
  unfold hasB
  rw [decide_eq_true (by omega), Bool.true_and, Int.toNat_natCast]
theorem lastI_snoc (l : List Int) (a : Int) (s : Nat) : lastI (l ++ [a]) s = if hasB s a then a else lastI l s := by
  unfold lastI lastTo
  rw [List.take_length, List.take_length, List.foldl_append]
  rfl
theorem least_base {h : List TxnV} {x : Nat} {l : List Int} {R : Mat} (hx : x < 9223372036854775808) (hR : LeastIs h x l R) {i j : Nat} (hi : i < 64) (hj : j < 64)
    (hb : froM h i j = true ∨ (x.testBit 0 = true ∧ sesM h i j = true) ∨ (x.testBit 5 = true ∧ timM h i j = true) ∨ (x.testBit 3 = true ∧ rivM h (chainR l) i j = true) ∨ (x.testBit 4 = true ∧ chainR l i j = true)) : R i j = true := by
  refine (hR i j hi hj).2 (.base ((startM_iff h x hx _ i j).2 ?_))
  rw [baseM_iff h x hx]
  rcases hb with hb | hb | hb | hb | hb
  · exact .inl (.inl hb)
  · exact .inl (.inr (.inl hb))
  · exact .inl (.inr (.inr hb))
  · exact .inr (.inl hb)
  · exact .inr (.inr hb)
end Go.Proofs.YtfancjmhdbaoeaaGreatDoor

namespace Go.Proofs.YtfancjmhdbaoeaaGreatDoor
set_option maxRecDepth 100000
open Go.RowKit

section
variable {b pl rv C : Nat} {sF aF : Nat → Nat}
theorem wld1_base {j : Nat} (h : b.testBit j = true) : (wld1 b pl C).testBit j = true := by
  unfold wld1; split
  · rw [Nat.testBit_or, h]; rfl
  · exact h
theorem wld2_up {j : Nat} (h : (wld1 b pl C).testBit j = true) : (wld2 b pl rv C).testBit j = true := by
  unfold wld2; split
  · rw [Nat.testBit_or, h]; rfl
  · exact h
theorem wld3_up {j : Nat} (h : (wld2 b pl rv C).testBit j = true) : (wld3 b pl rv C sF).testBit j = true := by
  unfold wld3; split
  · rw [Nat.testBit_or, h]; rfl
  · exact h
theorem wld4_up {j : Nat} (h : (wld3 b pl rv C sF).testBit j = true) : (wld4 b pl rv C sF aF).testBit j = true := by
  unfold wld4; split
  · rw [Nat.testBit_or, h]; rfl
  · exact h
theorem wld4_base {j : Nat} (h : b.testBit j = true) : (wld4 b pl rv C sF aF).testBit j = true := wld4_up (wld3_up (wld2_up (wld1_base h)))
theorem wld4_all {j : Nat} (hc : C.testBit 4 = true) (h : pl.testBit j = true) : (wld4 b pl rv C sF aF).testBit j = true := by
  refine wld4_up (wld3_up (wld2_up ?_))
  unfold wld1
  rw [if_pos hc, Nat.testBit_or, h, Bool.or_true]
theorem wld4_riv {j : Nat} (hc : C.testBit 3 = true) (h : rv.testBit j = true) (h2 : pl.testBit j = true) : (wld4 b pl rv C sF aF).testBit j = true := by
  refine wld4_up (wld3_up ?_)
  unfold wld2
  rw [if_pos hc, Nat.testBit_or, Nat.testBit_and, h, h2, Bool.and_true, Bool.or_true]
theorem wld4_least {Y : Nat → Prop} (hb : ∀ j, b.testBit j = true → Y j) (h4 : C.testBit 4 = true → ∀ j, pl.testBit j = true → Y j) (h3 : C.testBit 3 = true → ∀ j, rv.testBit j = true → pl.testBit j = true → Y j)
    (h1 : C.testBit 1 = true → ∀ m j, m < 64 → Y m → (sF m).testBit j = true → Y j) (h2 : C.testBit 2 = true → ∀ m j, m < 64 → Y m → (aF m).testBit j = true → Y j) {j : Nat} (h : (wld4 b pl rv C sF aF).testBit j = true) : Y j := by
  have y1 : ∀ j, (wld1 b pl C).testBit j = true → Y j := by
    intro j hj
    unfold wld1 at hj
    split at hj
    · rename_i hc; rw [Nat.testBit_or, Bool.or_eq_true] at hj; exact hj.elim (hb j) (h4 hc j)
    · exact hb j hj
  have y2 : ∀ j, (wld2 b pl rv C).testBit j = true → Y j := by
    intro j hj
    unfold wld2 at hj
    split at hj
    · rename_i hc; rw [Nat.testBit_or, Bool.or_eq_true, Nat.testBit_and, Bool.and_eq_true] at hj; exact hj.elim (y1 j) (fun q => h3 hc j q.1 q.2)
    · exact y1 j hj
  have y3 : ∀ j, (wld3 b pl rv C sF).testBit j = true → Y j := by
    intro j hj
    unfold wld3 at hj
    split at hj
    · rename_i hc; rw [Nat.testBit_or, Bool.or_eq_true, joinN_iff] at hj
      rcases hj with hj | ⟨k, hk, q1, q2⟩
      · exact y2 j hj
      · exact h1 hc k j hk (y2 k q1) q2
    · exact y2 j hj
  unfold wld4 at h
  split at h
  · rename_i hc; rw [Nat.testBit_or, Bool.or_eq_true, joinN_iff] at h
    rcases h with hj | ⟨k, hk, q1, q2⟩
    · exact y3 j hj
    · exact h2 hc k j hk (y3 k q1) q2
  · exact y3 j h
/-- One round is enough: whom one would see is closed. -/
theorem wld4_closed (_ : ∀ k j, (aF k).testBit j = true → j < 64) (h64 : ∀ m, (wld4 b pl rv C sF aF).testBit m = true → m < 64) (hsa : ∀ k j, (sF k).testBit j = true → (aF k).testBit j = true)
    (hs : C.testBit 1 = true → ∀ k m j, (sF k).testBit m = true → (sF m).testBit j = true → (sF k).testBit j = true)
    (ha : ∀ k m j, (aF k).testBit m = true → (aF m).testBit j = true → (aF k).testBit j = true) :
    (C.testBit 1 = true → ∀ m j, (wld4 b pl rv C sF aF).testBit m = true → (sF m).testBit j = true → (wld4 b pl rv C sF aF).testBit j = true) ∧
    (C.testBit 2 = true → ∀ m j, (wld4 b pl rv C sF aF).testBit m = true → (aF m).testBit j = true → (wld4 b pl rv C sF aF).testBit j = true) := by
  have P2 : C.testBit 2 = true → ∀ m j, (wld4 b pl rv C sF aF).testBit m = true → (aF m).testBit j = true → (wld4 b pl rv C sF aF).testBit j = true := by
    intro hc m j hm hj
    have hm64 := h64 m hm
    unfold wld4 at hm ⊢
    rw [if_pos hc, Nat.testBit_or, Bool.or_eq_true, joinN_iff] at hm ⊢
    rcases hm with hm | ⟨k, hk, q1, q2⟩
    · exact .inr ⟨m, hm64, hm, hj⟩
    · exact .inr ⟨k, hk, q1, ha k m j q2 hj⟩
  refine ⟨fun hc m j hm hj => ?_, P2⟩
  by_cases c2 : C.testBit 2 = true
  · exact P2 c2 m j hm (hsa m j hj)
  · have e : wld4 b pl rv C sF aF = wld3 b pl rv C sF := by unfold wld4; rw [if_neg c2]
    have hm64 := h64 m hm
    rw [e] at hm ⊢
    unfold wld3 at hm ⊢
    rw [if_pos hc, Nat.testBit_or, Bool.or_eq_true, joinN_iff] at hm ⊢
    rcases hm with hm | ⟨k, hk, q1, q2⟩
    · exact .inr ⟨m, hm64, hm, hj⟩
    · exact .inr ⟨k, hk, q1, hs hc k m j q2 hj⟩
end
/-- A row, the last one first, of those each of which must see none but those ahead of it. -/
structure RowG (h : List TxnV) (C : Nat) (r : List Nat) : Prop where
  nd : r.Nodup
  lt : ∀ k ∈ r, k < 64
  base : ∀ k ∈ r, ∀ j, (baseN h C k).testBit j = true → (aheadL r k).testBit j = true
section
variable {h : List TxnV} {C : Nat}
theorem RowG.tail {i : Nat} {r : List Nat} (g : RowG h C (i :: r)) : RowG h C r :=
  ⟨(List.nodup_cons.1 g.nd).2, fun k hk => g.lt k (List.mem_cons_of_mem _ hk), (base_tail (List.nodup_cons.1 g.nd).1 g.base).1⟩
theorem RowG.head {i : Nat} {r : List Nat} (g : RowG h C (i :: r)) : ∀ j, (baseN h C i).testBit j = true → (plS r).testBit j = true := (base_tail (List.nodup_cons.1 g.nd).1 g.base).2
theorem aheadL_tail {i k : Nat} {r : List Nat} (hne : k ≠ i) : aheadL (i :: r) k = aheadL r k := by rw [aheadL, if_neg hne]
theorem plSee_tail {i k : Nat} {r : List Nat} (hne : k ≠ i) : plSee h C (i :: r) k = plSee h C r k := by rw [plSee, if_neg hne]
theorem plS_mem {r : List Nat} (hlt : ∀ k ∈ r, k < 64) {j : Nat} (hj : (plS r).testBit j = true) : j ∈ r := by rw [plS_bit j r hlt, decide_eq_true_eq] at hj; exact hj
theorem aheadL_mem {r : List Nat} (hlt : ∀ k ∈ r, k < 64) {k j : Nat} (hj : (aheadL r k).testBit j = true) : j ∈ r := plS_mem hlt (ahead_in hlt hj)
theorem aheadL_out : ∀ {r : List Nat} {k : Nat}, k ∉ r → aheadL r k = 0
  | [], _, _ => rfl
  | i :: r, k, hk => by
    rw [aheadL_tail (fun e => hk (by rw [e]; exact List.mem_cons_self ..)), aheadL_out (fun q => hk (List.mem_cons_of_mem _ q))]
theorem aheadL_trans : ∀ {r : List Nat}, r.Nodup → (∀ k ∈ r, k < 64) → ∀ {k m j : Nat}, (aheadL r k).testBit m = true → (aheadL r m).testBit j = true → (aheadL r k).testBit j = true
  | [], _, _, k, m, j, h1, _ => by unfold aheadL at h1; simp at h1
  | i :: r, hnd, hlt, k, m, j, h1, h2 => by
    obtain ⟨hi, hnd'⟩ := List.nodup_cons.1 hnd
    have hlt' : ∀ a ∈ r, a < 64 := fun a ha => hlt a (List.mem_cons_of_mem _ ha)
    by_cases e : k = i
    · subst e
      rw [aheadL, if_pos rfl] at h1 ⊢
      have hm := plS_mem hlt' h1
      rw [aheadL_tail (fun e => hi (by rw [← e]; exact hm))] at h2
      exact ahead_in hlt' h2
    · rw [aheadL_tail e] at h1 ⊢
      have hm := aheadL_mem hlt' h1
      rw [aheadL_tail (fun e => hi (by rw [← e]; exact hm))] at h2
      exact aheadL_trans hnd' hlt' h1 h2
/-- One that comes next sees what is closed. -/
theorem sees_closed : ∀ {r : List Nat}, RowG h C r → (C.testBit 1 = true → ∀ k m j, (plSee h C r k).testBit m = true → (plSee h C r m).testBit j = true → (plSee h C r k).testBit j = true) ∧
    (C.testBit 2 = true → ∀ k m j, (plSee h C r k).testBit m = true → (aheadL r m).testBit j = true → (plSee h C r k).testBit j = true)
  | [], _ => ⟨fun _ k m j h1 _ => by unfold plSee at h1; simp at h1, fun _ k m j h1 _ => by unfold plSee at h1; simp at h1⟩
  | i :: r, g => by
    obtain ⟨hi, hnd'⟩ := List.nodup_cons.1 g.nd
    have gt := g.tail
    obtain ⟨I1, I2⟩ := sees_closed gt
    have hin : ∀ m, (wld4 (baseN h C i) (plS r) (rivN h i) C (plSee h C r) (aheadL r)).testBit m = true → (plS r).testBit m = true := fun m hm =>
      wld4_in g.head (fun k j _ hj => ahead_in gt.lt (sees_ahead gt.lt gt.nd gt.base hj)) (fun k j _ hj => ahead_in gt.lt hj) hm
    obtain ⟨N1, N2⟩ := wld4_closed (b := baseN h C i) (pl := plS r) (rv := rivN h i) (C := C) (sF := plSee h C r) (aF := aheadL r) (fun k j hj => gt.lt j (aheadL_mem gt.lt hj)) (fun m hm => gt.lt m (plS_mem gt.lt (hin m hm)))
      (fun k j hj => sees_ahead gt.lt gt.nd gt.base hj) (fun hc k m j => I1 hc k m j) (fun k m j => aheadL_trans gt.nd gt.lt)
    constructor
    · intro hc k m j h1 h2
      by_cases e : k = i
      · subst e
        rw [plSee, if_pos rfl] at h1 ⊢
        have hm := plS_mem gt.lt (hin m h1)
        rw [plSee_tail (fun e => hi (by rw [← e]; exact hm))] at h2
        exact N1 hc m j h1 h2
      · rw [plSee_tail e] at h1 ⊢
        have hm := aheadL_mem gt.lt (sees_ahead gt.lt gt.nd gt.base h1)
        rw [plSee_tail (fun e => hi (by rw [← e]; exact hm))] at h2
        exact I1 hc k m j h1 h2
    · intro hc k m j h1 h2
      by_cases e : k = i
      · subst e
        rw [plSee, if_pos rfl] at h1 ⊢
        have hm := plS_mem gt.lt (hin m h1)
        rw [aheadL_tail (fun e => hi (by rw [← e]; exact hm))] at h2
        exact N2 hc m j h1 h2
      · rw [plSee_tail e] at h1 ⊢
        have hm := aheadL_mem gt.lt (sees_ahead gt.lt gt.nd gt.base h1)
        rw [aheadL_tail (fun e => hi (by rw [← e]; exact hm))] at h2
        exact I2 hc k m j h1 h2
/-- Whom one sees, by the whole row. -/
theorem sees_fix : ∀ {r : List Nat}, RowG h C r → ∀ k, k ∈ r → plSee h C r k = wld4 (baseN h C k) (aheadL r k) (rivN h k) C (plSee h C r) (aheadL r)
  | [], _, k, hk => by cases hk
  | i :: r, g, k, hk => by
    obtain ⟨hi, hnd'⟩ := List.nodup_cons.1 g.nd
    have gt := g.tail
    have hS : ∀ k j, (plSee h C r k).testBit j = true → (plS r).testBit j = true := fun k j hj => ahead_in gt.lt (sees_ahead gt.lt gt.nd gt.base hj)
    by_cases e : k = i
    · subst e
      rw [show aheadL (k :: r) k = plS r by rw [aheadL, if_pos rfl]]
      conv => lhs; rw [plSee, if_pos rfl]
      refine wld4_congr g.head (fun m hm hp => ?_) (fun m j _ => hS m j)
      have hne : m ≠ k := fun e => hi (by rw [← e]; exact plS_mem gt.lt hp)
      rw [plSee_tail hne, aheadL_tail hne]; exact ⟨rfl, rfl⟩
    · have hkr : k ∈ r := by rcases List.mem_cons.1 hk with q | q; exact (e q).elim; exact q
      rw [plSee_tail e, aheadL_tail e, sees_fix gt k hkr]
      refine wld4_congr (gt.base k hkr) (fun m hm hp => ?_) (fun m j hp hj => aheadL_trans gt.nd gt.lt hp (sees_ahead gt.lt gt.nd gt.base hj))
      have hne : m ≠ i := fun e => hi (by rw [← e]; exact aheadL_mem gt.lt hp)
      rw [plSee_tail hne, aheadL_tail hne]; exact ⟨rfl, rfl⟩
theorem ahead_snoc {a b c : Int} : ∀ {L : List Int}, Ahead (L ++ [c]) a b ↔ Ahead L a b ∨ (a ∈ L ∧ b = c)
  | [] => by simp [Ahead]
  | d :: L => by
    show Ahead (L ++ [c]) a b ∨ (d = a ∧ b ∈ L ++ [c]) ↔ (Ahead L a b ∨ (d = a ∧ b ∈ L)) ∨ (a ∈ d :: L ∧ b = c)
    rw [ahead_snoc, List.mem_append, List.mem_singleton, List.mem_cons]
    constructor
    · rintro ((q | ⟨q1, q2⟩) | ⟨q1, q2 | q2⟩)
      · exact .inl (.inl q)
      · exact .inr ⟨.inr q1, q2⟩
      · exact .inl (.inr ⟨q1, q2⟩)
      · exact .inr ⟨.inl q1.symm, q2⟩
    · rintro ((q | ⟨q1, q2⟩) | ⟨q1 | q1, q2⟩)
      · exact .inl (.inl q)
      · exact .inr ⟨q1, .inl q2⟩
      · exact .inr ⟨q1.symm, .inr q2⟩
      · exact .inl (.inr ⟨q1, q2⟩)
theorem ahead_chain {r : List Nat} (hnd : r.Nodup) (hlt : ∀ k ∈ r, k < 64) (j k : Nat) : chainR (r.reverse.map Int.ofNat) j k = true ↔ (aheadL r k).testBit j = true := by
  rw [chainR_iff]
  induction r with
  | nil => simp [Ahead, aheadL]
  | cons i r ih =>
    obtain ⟨hi, hnd'⟩ := List.nodup_cons.1 hnd
    have hlt' : ∀ a ∈ r, a < 64 := fun a ha => hlt a (List.mem_cons_of_mem _ ha)
    have ih := ih hnd' hlt'
    rw [List.reverse_cons, List.map_append, List.map_cons, List.map_nil, ahead_snoc, ih]
    have hmem : ((j : Int) ∈ r.reverse.map Int.ofNat) ↔ j ∈ r := by
      rw [List.mem_map]
      exact ⟨fun ⟨a, ha, e⟩ => by have : a = j := Int.ofNat.inj e; rw [← this]; exact List.mem_reverse.1 ha, fun q => ⟨j, List.mem_reverse.2 q, rfl⟩⟩
    rw [hmem]
    by_cases e : k = i
    · subst e
      rw [aheadL, if_pos rfl, plS_bit j r hlt', decide_eq_true_eq, aheadL_out hi]
      simp
    · rw [aheadL_tail e]
      constructor
      · rintro (q | ⟨_, q⟩)
        · exact q
        · exact (e (Int.ofNat.inj q)).elim
      · exact fun q => .inl q
end
end Go.Proofs.YtfancjmhdbaoeaaGreatDoor

namespace Go.Proofs.YtfancjmhdbaoeaaGreatDoor
set_option maxRecDepth 100000
open Go.RowKit

/-- Where one stands in a row, from a place on; -1: nowhere. -/
def placeF : List Int → Int → Nat → Int
  | [], _, _ => -1
  | a :: r, i, k => if a = i then (k : Int) else placeF r i (k + 1)
def placeI (l : List Int) (i : Int) : Int := placeF l i 0
end Go.Proofs.YtfancjmhdbaoeaaGreatDoor

namespace Go.Proofs.YtfancjmhdbaoeaaGreatDoor
set_option maxRecDepth 100000
open Go.RowKit

/-- Does one come ahead of another one in a row, as the reference says it? -/
def ahR (l : List Int) (i k : Int) : Bool := decide (placeI l i < placeI l k)
/-- Must one be seen by another one, whatever else is, as the reference says it? -/
def mustR (h : List TxnV) (x : Nat) (l : List Int) (i k : Nat) : Bool := ((froR h i k || (hasT x 1 && sesP h i k)) || (hasT x 32 && timP h i k)) || (ahR l (i : Int) (k : Int) && (hasT x 16 || (hasT x 8 && rivR h i k)))
end Go.Proofs.YtfancjmhdbaoeaaGreatDoor

namespace Go.Proofs.YtfancjmhdbaoeaaGreatDoor
set_option maxRecDepth 100000
open Go.RowKit

/-- All pairs of numbers below n. -/
def gridP (n : Nat) : List Pr := (List.range n).flatMap fun i => (List.range n).map fun k => (((i : Nat) : Int), ((k : Nat) : Int))
theorem gridP_len (n : Nat) : (gridP n).length = n * n := by
  unfold gridP
  rw [List.length_flatMap]
  have : ((List.range n).map fun i => ((List.range n).map fun k => ((((i : Nat) : Int), ((k : Nat) : Int)) : Pr)).length) = (List.range n).map fun _ => n := by simp
  rw [this, List.map_const']
  have hr : ∀ n k : Nat, (List.replicate n k).sum = n * k := by
    intro n k; induction n with
    | zero => simp
    | succ n ih => rw [List.replicate_succ, List.sum_cons, ih, Nat.succ_mul]; omega
  rw [hr, List.length_range]
theorem mem_gridP {n : Nat} {p : Pr} : p ∈ gridP n ↔ ∃ i k : Nat, i < n ∧ k < n ∧ p = ((i : Int), (k : Int)) := by
  unfold gridP
  rw [List.mem_flatMap]
  constructor
  · rintro ⟨i, hi, h⟩
    obtain ⟨k, hk, e⟩ := List.mem_map.1 h
    exact ⟨i, k, List.mem_range.1 hi, List.mem_range.1 hk, e.symm⟩
  · rintro ⟨i, k, hi, hk, rfl⟩
    exact ⟨i, List.mem_range.2 hi, List.mem_map.2 ⟨k, List.mem_range.2 hk, rfl⟩⟩
/-- Each once, of numbers below n, and each is one of M. -/
def InM (n : Nat) (M : Nat → Nat → Prop) (m : List Pr) : Prop := m.Nodup ∧ ∀ p ∈ m, ∃ i k : Nat, i < n ∧ k < n ∧ p = ((i : Int), (k : Int)) ∧ M i k
theorem InM.len {n : Nat} {M : Nat → Nat → Prop} {m : List Pr} (h : InM n M m) : m.length ≤ n * n := by
  rw [← gridP_len]
  refine nodup_le m (gridP n) h.1 fun p hp => ?_
  obtain ⟨i, k, hi, hk, e, _⟩ := h.2 p hp
  exact mem_gridP.2 ⟨i, k, hi, hk, e⟩
theorem InM.put {n : Nat} {M : Nat → Nat → Prop} {m : List Pr} (h : InM n M m) {i k : Nat} (hi : i < n) (hk : k < n) (hM : M i k) : InM n M (putP m (i : Int) (k : Int)) := by
  refine ⟨putP_nodup h.1, fun p hp => ?_⟩
  rcases mem_putP.1 hp with hp | rfl
  · exact h.2 p hp
  · exact ⟨i, k, hi, hk, rfl, hM⟩
/-- What must be seen of the start, what comes ahead, as the reference says it. -/
def staR (h : List TxnV) (x : Nat) (l : List Int) (n : Nat) : Mat := fun i k => decide (i < n) && decide (k < n) && decide (i ≠ k) && mustR h x l i k
/-- Are all pairs ahead of a place looked at: each is there, or isn't wanted? -/
def DoneTo (n : Nat) (P : Nat → Nat → Prop) (i0 k0 : Nat) : Prop := ∀ i k : Nat, i < n → k < n → (i < i0 ∨ (i = i0 ∧ k < k0)) → P i k
theorem DoneTo.row {n : Nat} {P : Nat → Nat → Prop} {i0 : Nat} (h : DoneTo n P i0 n) : DoneTo n P (i0 + 1) 0 := fun i k hi hk hlt => h i k hi hk (by omega)
theorem DoneTo.next {n : Nat} {P : Nat → Nat → Prop} {i0 k0 : Nat} (h : DoneTo n P i0 k0) (hp : P i0 k0) : DoneTo n P i0 (k0 + 1) := fun i k hi hk hlt => by
  by_cases e : i = i0 ∧ k = k0
  · rw [e.1, e.2]; exact hp
  · exact h i k hi hk (by omega)
theorem DoneTo.none {n : Nat} {P : Nat → Nat → Prop} : DoneTo n P 0 0 := fun i k _ _ h => by omega
theorem DoneTo.mono {n : Nat} {P Q : Nat → Nat → Prop} {i0 k0 : Nat} (h : DoneTo n P i0 k0) (hp : ∀ i k, P i k → Q i k) : DoneTo n Q i0 k0 := fun i k hi hk hlt => hp i k (h i k hi hk hlt)
theorem DoneTo.all {n : Nat} {P : Nat → Nat → Prop} {k0 : Nat} (h : DoneTo n P n k0) (i k : Nat) (hi : i < n) (hk : k < n) : P i k := h i k hi hk (.inl hi)
/-- The first round: what must be seen of the start. -/
def FirP (h : List TxnV) (x : Nat) (l : List Int) (n : Nat) (m : List Pr) (i k : Nat) : Prop := staR h x l n i k = true → ((i : Int), (k : Int)) ∈ m
theorem FirP.put {h : List TxnV} {x : Nat} {l : List Int} {n : Nat} {m : List Pr} {a b : Int} {i k : Nat} (hf : FirP h x l n m i k) : FirP h x l n (putP m a b) i k := fun hs => mem_putP.2 (.inl (hf hs))
end Go.Proofs.YtfancjmhdbaoeaaGreatDoor

namespace Go.Proofs.YtfancjmhdbaoeaaGreatDoor
set_option maxRecDepth 100000
open Go.RowKit

theorem all_congr {α : Type} {p q : α → Bool} : ∀ (l : List α), (∀ a ∈ l, p a = q a) → l.all p = l.all q
  | [], _ => rfl
  | a :: l, h => by rw [List.all_cons, List.all_cons, h a List.mem_cons_self, all_congr l (fun b hb => h b (List.mem_cons_of_mem _ hb))]
end Go.Proofs.YtfancjmhdbaoeaaGreatDoor

namespace Go.Proofs.YtfancjmhdbaoeaaGreatDoor
set_option maxRecDepth 100000
open Go.RowKit

theorem rivR_symm (h : List TxnV) (i k : Nat) : rivR h i k = rivR h k i := by
  unfold rivR
  congr 1
  funext n
  rw [Bool.and_comm]
theorem rivB_symm (h : List TxnV) (i k : Nat) : rivB h i k = rivB h k i := by
  unfold rivB
  rw [rivR_symm h i k, Bool.eq_iff_iff]
  simp only [Bool.and_eq_true, decide_eq_true_eq]
  exact ⟨fun ⟨a, b, c, d⟩ => ⟨b, a, fun e => c e.symm, d⟩, fun ⟨a, b, c, d⟩ => ⟨b, a, fun e => c e.symm, d⟩⟩
theorem baseN_bit {h : List TxnV} {C i j : Nat} (hi : i < 64) : (baseN h C i).testBit j = true ↔ j < 64 ∧ baseM h (C : Int) j i = true := by
  unfold baseN
  rw [seeTo_bit _ _ _ _ (Nat.le_refl 64), Bool.and_eq_true, decide_eq_true_eq]
  exact ⟨fun ⟨a, b⟩ => ⟨a, by rwa [hasR_nat _ _ _ a hi] at b⟩, fun ⟨a, b⟩ => ⟨a, by rw [hasR_nat _ _ _ a hi]; exact b⟩⟩
theorem rivN_bit {h : List TxnV} {i j : Nat} : (rivN h i).testBit j = true ↔ j < 64 ∧ rivB h i j = true := by
  unfold rivN
  rw [testBit_mkS, Bool.and_eq_true, decide_eq_true_eq]
theorem baseM_lt {h : List TxnV} {C j k : Nat} (hC : C < 9223372036854775808) (hj : j < 64) (hk : k < 64) (hb : baseM h (C : Int) j k = true) : j < h.length ∧ k < h.length := by
  rw [baseM_iff h C hC] at hb
  rcases hb with hb | ⟨_, hb⟩ | ⟨_, hb⟩
  · exact ⟨((prsTo_iff _ _ j k hj hk _).1 hb).1, ((prsTo_iff _ _ j k hj hk _).1 hb).2.1⟩
  · exact ⟨((prsTo_iff _ _ j k hj hk _).1 hb).1, ((prsTo_iff _ _ j k hj hk _).1 hb).2.1⟩
  · exact ⟨((prsTo_iff _ _ j k hj hk _).1 hb).1, ((prsTo_iff _ _ j k hj hk _).1 hb).2.1⟩
/-- What is seen, as a relation. -/
def seesR (h : List TxnV) (C : Nat) (r : List Nat) : Mat := fun j k => (plSee h C r k).testBit j
section
variable {h : List TxnV} {C : Nat}
theorem RowG.drop : ∀ {p r : List Nat}, RowG h C (p ++ r) → RowG h C r
  | [], _, g => g
  | _ :: p, _, g => RowG.drop (p := p) g.tail
theorem aheadL_drop : ∀ {p r : List Nat}, (p ++ r).Nodup → ∀ {k : Nat}, k ∈ r → aheadL (p ++ r) k = aheadL r k
  | [], _, _, _, _ => rfl
  | i :: p, r, hn, k, hk => by
    obtain ⟨hi, hn'⟩ := List.nodup_cons.1 (show (i :: (p ++ r)).Nodup from hn)
    show aheadL (i :: (p ++ r)) k = _
    rw [aheadL_tail (fun e => hi (by rw [← e]; exact List.mem_append_right _ hk)), aheadL_drop hn' hk]
theorem sees_sound {r : List Nat} (g : RowG h C r) (hC : C < 9223372036854775808) : ∀ (r' p : List Nat), p ++ r' = r → ∀ j k, (plSee h C r' k).testBit j = true → Must (startM h (C : Int) (chainR (r.reverse.map Int.ofNat))) (chainR (r.reverse.map Int.ofNat)) (trB C) (pfB C) j k
  | [], _, _, j, k, hj => by unfold plSee at hj; simp at hj
  | i :: r', p, he, j, k, hj => by
    have ih := sees_sound g hC r' (p ++ [i]) (by rw [List.append_assoc]; exact he)
    by_cases e : k = i
    · subst e
      have g2 : RowG h C (k :: r') := RowG.drop (p := p) (by rw [he]; exact g)
      have hk64 := g2.lt k (List.mem_cons_self ..)
      have hA : ∀ m, m ∈ k :: r' → aheadL r m = aheadL (k :: r') m := fun m hm => by
        rw [← he]; exact aheadL_drop (by rw [he]; exact g.nd) hm
      have hkn := (List.nodup_cons.1 g2.nd).1
      have hpl : ∀ j, (plS r').testBit j = true → chainR (r.reverse.map Int.ofNat) j k = true := fun j hj => by
        rw [ahead_chain g.nd g.lt, hA k (List.mem_cons_self ..), aheadL, if_pos rfl]; exact hj
      rw [plSee, if_pos rfl] at hj
      refine wld4_least (Y := fun j => Must (startM h (C : Int) (chainR (r.reverse.map Int.ofNat))) (chainR (r.reverse.map Int.ofNat)) (trB C) (pfB C) j k) ?_ ?_ ?_ ?_ ?_ hj
      · intro j hj
        exact .base ((startM_iff h C hC _ j k).2 (.inl ((baseN_bit hk64).1 hj).2))
      · intro hc j hj
        exact .base ((startM_iff h C hC _ j k).2 (.inr (.inr ⟨hc, hpl j hj⟩)))
      · intro hc j hr hj
        refine .base ((startM_iff h C hC _ j k).2 (.inr (.inl ⟨hc, ?_⟩)))
        unfold rivM
        rw [hpl j hj, rivB_symm, (rivN_bit.1 hr).2]; rfl
      · intro hc m j hm hY hj
        exact .trans (by rw [trB_bit C hC]; exact hc) hm (ih j m hj) hY
      · intro hc m j hm hY hj
        refine .pre (by rw [pfB_bit C hC]; exact hc) hm ?_ hY
        have hm' : m ∈ r' := by
          by_cases q : m ∈ r'
          · exact q
          · rw [aheadL_out q] at hj; simp at hj
        have hne : m ≠ k := fun e => hkn (by rw [← e]; exact hm')
        rw [ahead_chain g.nd g.lt, hA m (List.mem_cons_of_mem _ hm'), aheadL_tail hne]; exact hj
    · rw [plSee_tail e] at hj
      exact ih j k hj
theorem sees_least {r : List Nat} (g : RowG h C r) (hC : C < 9223372036854775808) (hall : ∀ k, k < h.length → k ∈ r) : LeastIs h C (r.reverse.map Int.ofNat) (seesR h C r) := by
  intro j k hj hk
  refine ⟨fun hs => sees_sound g hC r [] rfl j k hs, fun hm => ?_⟩
  obtain ⟨c1, c2⟩ := sees_closed g
  refine must_in (V := fun j k => (plSee h C r k).testBit j = true) ?_ ?_ ?_ hm hj hk
  · intro j k hj hk hs
    rw [startM_iff h C hC] at hs
    rcases hs with hs | ⟨hc, hs⟩ | ⟨hc, hs⟩
    · have hkr := hall k (baseM_lt hC hj hk hs).2
      rw [sees_fix g k hkr]
      exact wld4_base ((baseN_bit hk).2 ⟨hj, hs⟩)
    · unfold rivM at hs
      rw [Bool.and_eq_true, ahead_chain g.nd g.lt] at hs
      have hkr : k ∈ r := by
        by_cases q : k ∈ r
        · exact q
        · rw [aheadL_out q] at hs; simp at hs
      rw [sees_fix g k hkr]
      exact wld4_riv hc (rivN_bit.2 ⟨hj, by rw [rivB_symm]; exact hs.2⟩) hs.1
    · rw [ahead_chain g.nd g.lt] at hs
      have hkr : k ∈ r := by
        by_cases q : k ∈ r
        · exact q
        · rw [aheadL_out q] at hs; simp at hs
      rw [sees_fix g k hkr]
      exact wld4_all hc hs
  · intro ht i m j _ _ _ h1 h2
    rw [trB_bit C hC] at ht
    exact c1 ht j m i h2 h1
  · intro hp i m j _ _ _ h1 h2
    rw [pfB_bit C hC] at hp
    rw [ahead_chain g.nd g.lt] at h1
    exact c2 hp j m i h2 h1
end
/-- What one reads of others: nothing, or what another one wrote. -/
theorem read_from {h : List TxnV} (hc : checkI h = 0) {k : Nat} (hk : k < h.length) {x : Int × Int} (hx : x ∈ readsOf h k) : x.2 = -1 ∨ ∃ n : Nat, n < h.length ∧ x.2 = (n : Int) ∧ n ≠ k ∧ (wrtN h x.1).testBit n = true := by
  rw [reads_same hc hk] at hx
  unfold rdR at hx
  obtain ⟨o, ho, rfl⟩ := List.mem_map.1 hx
  obtain ⟨ho1, ho2⟩ := List.mem_filter.1 ho
  obtain ⟨h1, h2⟩ := refReads_in ho1
  rcases reads_F (may_of hc) hk h1 h2 with ⟨h0, hn⟩ | ⟨h0, u, hu, hku, hw⟩
  · left; unfold fromR; rw [if_pos h0]
  · right
    obtain ⟨p, hp, hpv, hpk⟩ := real_wr h h.length (Nat.le_refl _) o.val u hu
    obtain ⟨t, ht, hpt, hpw⟩ := wrs_mem.1 hp
    obtain ⟨n, hn, rfl⟩ := List.getElem_of_mem ht
    have h3 := may_wr (may_of hc) hn hpt hpw
    rw [hpv, hu] at h3
    have h4 := Option.some.inj h3
    have hui : u.i = (n : Int) := by rw [h4]
    have hfr : fromR h o = (n : Int) := by unfold fromR; rw [if_neg h0, hw, hui]
    refine ⟨n, hn, hfr, ?_, ?_⟩
    · rintro rfl
      rw [hfr] at ho2
      simp at ho2
    · have h64 := (check_zero hc).1
      show (wrtN h o.key).testBit n = true
      unfold wrtN
      rw [testBit_mkS, decide_eq_true (show n < 64 by omega), decide_eq_true hn, Bool.true_and, Bool.true_and, decide_eq_true_eq, opsAt_eq hn]
      unfold keysOf
      rw [← hku, ← hpk]
      obtain ⟨a, b⟩ := (check_zero hc).2.2.2 _ (List.getElem_mem hn) p hpt
      obtain ⟨q, hq⟩ := Option.isSome_iff_exists.1 (lastW_some h[n].l hpw h[n].l.length (Nat.le_refl _) (by rw [List.take_length]; exact hpt))
      rw [List.take_length] at hq
      refine List.mem_map.2 ⟨q, upTo_mem.2 ⟨p.key.toNat, by omega, ?_⟩, (lastW_key hq).1⟩
      unfold wrK
      rw [Int.toNat_of_nonneg a]; exact hq
theorem from_base {h : List TxnV} {C : Nat} (hC : C < 9223372036854775808) (h64 : h.length ≤ 64) {k n : Nat} (hk : k < h.length) (hn : n < h.length) {x : Int × Int} (hx : x ∈ readsOf h k) (he : x.2 = (n : Int)) : (baseN h C k).testBit n = true := by
  rw [baseN_bit (by omega)]
  refine ⟨by omega, (baseM_iff h C hC n k).2 (.inl ?_)⟩
  refine (prsTo_iff (froP h) h.length n k (by omega) (by omega) h.length).2 ⟨hn, hk, ?_⟩
  unfold froP
  rw [List.any_eq_true]
  exact ⟨x, hx, by rw [he]; simp⟩
theorem readsP_congr {h : List TxnV} {aF aG : Nat → Nat} {s k : Nat} (hc : ∀ x ∈ readsOf h k, 0 ≤ x.2 → aF x.2.toNat = aG x.2.toNat) : readsP h aF s k = readsP h aG s k := by
  unfold readsP
  refine all_congr _ fun x hx => ?_
  unfold readP readW
  by_cases h0 : 0 ≤ x.2
  · rw [if_pos h0, if_pos h0, hc x hx h0]
  · rw [if_neg h0, if_neg h0]
/-- Each one of a row may come where it does. -/
def goodR (h : List TxnV) (C : Nat) (r : List Nat) : Prop := ∀ k ∈ r, (∀ j, (baseN h C k).testBit j = true → (aheadL r k).testBit j = true) ∧ readsP h (aheadL r) (plSee h C r k) k = true
section
variable {h : List TxnV} {C : Nat}
theorem reads_tail (hc : checkI h = 0) (hC : C < 9223372036854775808) {i k : Nat} {r : List Nat} (hi : i ∉ r) (hlt : ∀ a ∈ r, a < h.length) (hk : k < h.length) (hb : ∀ j, (baseN h C k).testBit j = true → (plS r).testBit j = true) (s : Nat) :
    readsP h (aheadL (i :: r)) s k = readsP h (aheadL r) s k := by
  have h64 := (check_zero hc).1
  refine readsP_congr fun x hx h0 => ?_
  rcases read_from hc hk hx with e | ⟨n, hn, e, _, _⟩
  · omega
  · have := plS_mem (fun a ha => by have := hlt a ha; omega) (hb n (from_base hC h64 hk hn hx e))
    rw [e, Int.toNat_natCast]
    exact aheadL_tail (fun q => hi (by rw [← q]; exact this))
theorem inB_bits {s t : Nat} (hs : IsSet s) : inB s t = true ↔ ∀ j, s.testBit j = true → t.testBit j = true := by
  rw [inB_iff hs]
  exact ⟨fun q j hj => q j (by by_cases e : j < 64; exact e; rw [hs.high (by omega)] at hj; cases hj) hj, fun q j _ hj => q j hj⟩
theorem good_cons (hc : checkI h = 0) (hC : C < 9223372036854775808) {i : Nat} {r : List Nat} (hi : i ∉ r) (hin : i < h.length) (hlt : ∀ a ∈ r, a < h.length) : goodR h C (i :: r) ↔ goodR h C r ∧ tryP h C r i = true := by
  have h64 := (check_zero hc).1
  have hlt64 : ∀ a ∈ r, a < 64 := fun a ha => by have := hlt a ha; omega
  have key : ∀ k ∈ r, k ≠ i := fun k hk e => hi (by rw [← e]; exact hk)
  constructor
  · intro g
    constructor
    · intro k hk
      obtain ⟨g1, g2⟩ := g k (List.mem_cons_of_mem _ hk)
      rw [aheadL_tail (key k hk)] at g1
      refine ⟨g1, ?_⟩
      rw [plSee_tail (key k hk), reads_tail hc hC hi hlt (hlt k hk) (fun j hj => ahead_in hlt64 (g1 j hj))] at g2
      exact g2
    · obtain ⟨g1, g2⟩ := g i (List.mem_cons_self ..)
      rw [aheadL, if_pos rfl] at g1
      rw [plSee, if_pos rfl, reads_tail hc hC hi hlt hin g1] at g2
      unfold tryP nextN
      rw [decide_eq_true hin, decide_eq_false hi, (inB_bits (baseN_set h C i)).2 g1, g2]; rfl
  · rintro ⟨g, ht⟩
    unfold tryP at ht
    simp only [Bool.and_eq_true] at ht
    obtain ⟨_, _, g1, g2⟩ := ht
    have g1 := (inB_bits (baseN_set h C i)).1 g1
    intro k hk
    by_cases e : k = i
    · subst e
      rw [aheadL, if_pos rfl]
      refine ⟨g1, ?_⟩
      rw [plSee, if_pos rfl, reads_tail hc hC hi hlt hin g1]
      exact g2
    · have hkr : k ∈ r := by rcases List.mem_cons.1 hk with q | q; exact (e q).elim; exact q
      obtain ⟨q1, q2⟩ := g k hkr
      rw [aheadL_tail e]
      refine ⟨q1, ?_⟩
      rw [plSee_tail e, reads_tail hc hC hi hlt (hlt k hkr) (fun j hj => ahead_in hlt64 (q1 j hj))]
      exact q2
/-- May all come, one behind the other? -/
def allT (h : List TxnV) (C : Nat) : List Nat → List Nat → Bool
  | _, [] => true
  | r, i :: l => tryP h C r i && allT h C (i :: r) l
theorem good_drop (hc : checkI h = 0) (hC : C < 9223372036854775808) : ∀ {p r : List Nat}, (p ++ r).Nodup → (∀ a ∈ p ++ r, a < h.length) → goodR h C (p ++ r) → goodR h C r
  | [], _, _, _, g => g
  | i :: p, r, hn, hlt, g => by
    obtain ⟨hi, hn'⟩ := List.nodup_cons.1 (show (i :: (p ++ r)).Nodup from hn)
    have hlt' : ∀ a ∈ p ++ r, a < h.length := fun a ha => hlt a (List.mem_cons_of_mem _ ha)
    exact good_drop hc hC hn' hlt' ((good_cons hc hC hi (hlt i (List.mem_cons_self ..)) hlt').1 g).1
theorem allT_iff (hc : checkI h = 0) (hC : C < 9223372036854775808) : ∀ (l r : List Nat), (l.reverse ++ r).Nodup → (∀ a ∈ l.reverse ++ r, a < h.length) → goodR h C r → (allT h C r l = true ↔ goodR h C (l.reverse ++ r))
  | [], r, _, _, g => ⟨fun _ => g, fun _ => rfl⟩
  | i :: l, r, hn, hlt, g => by
    have e : (i :: l).reverse ++ r = l.reverse ++ (i :: r) := by simp
    rw [e] at hn hlt ⊢
    have hn2 : (i :: r).Nodup := (List.nodup_append.1 hn).2.1
    have hi := (List.nodup_cons.1 hn2).1
    have hin := hlt i (List.mem_append_right _ (List.mem_cons_self ..))
    have hltr : ∀ a ∈ r, a < h.length := fun a ha => hlt a (List.mem_append_right _ (List.mem_cons_of_mem _ ha))
    unfold allT
    rw [Bool.and_eq_true]
    constructor
    · rintro ⟨ht, ha⟩
      exact (allT_iff hc hC l (i :: r) hn hlt ((good_cons hc hC hi hin hltr).2 ⟨g, ht⟩)).1 ha
    · intro g2
      have g3 := good_drop hc hC hn hlt g2
      exact ⟨((good_cons hc hC hi hin hltr).1 g3).2, (allT_iff hc hC l (i :: r) hn hlt g3).2 g2⟩
/-- Which one comes last of some that come in a row. -/
theorem last_is {f : Nat} {S : Nat} (hS : S.testBit f = true) : ∀ {r : List Nat}, r.Nodup → (∀ k ∈ r, k < 64) → f ∈ r → (∀ j, S.testBit j = true → j ∈ r) → (lastI (r.reverse.map Int.ofNat) S = (f : Int) ↔ ∀ j, S.testBit j = true → j = f ∨ (aheadL r f).testBit j = true) := by
  intro r
  induction r with
  | nil => intro _ _ hf _; cases hf
  | cons i r ih =>
    intro hnd hlt hf hin
    obtain ⟨hi, hnd'⟩ := List.nodup_cons.1 hnd
    have hi64 := hlt i (List.mem_cons_self ..)
    have hlt' : ∀ a ∈ r, a < 64 := fun a ha => hlt a (List.mem_cons_of_mem _ ha)
    rw [List.reverse_cons, List.map_append, List.map_cons, List.map_nil, lastI_snoc, show Int.ofNat i = (i : Int) from rfl, hasB_nat hi64]
    by_cases hs : S.testBit i = true
    · rw [if_pos hs]
      by_cases e : f = i
      · subst e
        refine ⟨fun _ j hj => ?_, fun _ => rfl⟩
        rw [aheadL, if_pos rfl, plS_bit j r hlt', decide_eq_true_eq]
        exact List.mem_cons.1 (hin j hj)
      · constructor
        · intro q; exact (e (Int.ofNat.inj q).symm).elim
        · intro q
          rcases q i hs with q | q
          · exact (e q.symm).elim
          · rw [aheadL_tail e] at q
            exact (hi (aheadL_mem hlt' q)).elim
    · rw [if_neg hs]
      have e : f ≠ i := fun e => hs (by rw [← e]; exact hS)
      have hfr : f ∈ r := by rcases List.mem_cons.1 hf with q | q; exact (e q).elim; exact q
      rw [ih hnd' hlt' hfr (fun j hj => by
        rcases List.mem_cons.1 (hin j hj) with q | q
        · exact (hs (by rw [← q]; exact hj)).elim
        · exact q), aheadL_tail e]
theorem last_none {S : Nat} : ∀ {r : List Nat}, (∀ k ∈ r, k < 64) → (∀ j, S.testBit j = true → j ∈ r) → (lastI (r.reverse.map Int.ofNat) S = -1 ↔ S = 0) := by
  intro r
  induction r with
  | nil =>
    intro _ hin
    refine ⟨fun _ => ?_, fun _ => rfl⟩
    apply Nat.eq_of_testBit_eq
    intro j
    cases e : S.testBit j with
    | false => simp
    | true => cases hin j e
  | cons i r ih =>
    intro hlt hin
    have hi64 := hlt i (List.mem_cons_self ..)
    have hlt' : ∀ a ∈ r, a < 64 := fun a ha => hlt a (List.mem_cons_of_mem _ ha)
    rw [List.reverse_cons, List.map_append, List.map_cons, List.map_nil, lastI_snoc, show Int.ofNat i = (i : Int) from rfl, hasB_nat hi64]
    by_cases hs : S.testBit i = true
    · rw [if_pos hs]
      constructor
      · intro q; exact absurd q (by omega)
      · intro q; rw [q] at hs; simp at hs
    · rw [if_neg hs]
      exact ih hlt' (fun j hj => by
        rcases List.mem_cons.1 (hin j hj) with q | q
        · exact (hs (by rw [← q]; exact hj)).elim
        · exact q)
/-- Whom one reads of is the last one that it sees, just where none that it sees lies behind. -/
theorem read_last (hc : checkI h = 0) {r : List Nat} (hnd : r.Nodup) (hlt : ∀ k ∈ r, k < 64) {k s : Nat} (hk : k < h.length) (hs : ∀ j, s.testBit j = true → j ∈ r) {x : Int × Int} (hx : x ∈ readsOf h k) (hfs : ∀ n : Nat, x.2 = (n : Int) → s.testBit n = true) :
    decide (lastI (r.reverse.map Int.ofNat) (s &&& wrtN h x.1) = x.2) = readP h (aheadL r) s x := by
  have h64 := (check_zero hc).1
  unfold readP readW
  rw [decide_eq_decide]
  have hsW : ∀ j, (s &&& wrtN h x.1).testBit j = true → j ∈ r := fun j hj => by rw [Nat.testBit_and, Bool.and_eq_true] at hj; exact hs j hj.1
  rcases read_from hc hk hx with e | ⟨n, hn, e, hne, hw⟩
  · rw [e, if_neg (by omega)]
    exact last_none hlt hsW
  · have hsn := hfs n e
    rw [e, if_pos (by omega), Int.toNat_natCast, last_is (by rw [Nat.testBit_and, hsn, hw]; rfl) hnd hlt (hs n hsn) hsW]
    generalize s &&& wrtN h x.1 = T at *
    constructor
    · intro q
      unfold lackN
      apply Nat.eq_of_testBit_eq
      intro j
      rw [Nat.testBit_xor, Nat.testBit_and, testBit_withS, Int.toNat_natCast, Nat.zero_testBit]
      cases hj : T.testBit j with
      | false => simp
      | true =>
        rcases q j hj with q | q
        · subst q
          have : decide (0 ≤ (j : Int) ∧ (j : Int) < 64) = true := by simp; omega
          rw [this]; simp
        · rw [q]; simp
    · intro q j hj
      have := congrArg (fun z => z.testBit j) q
      simp only [lackN] at this
      rw [Nat.testBit_xor, Nat.testBit_and, testBit_withS, Int.toNat_natCast, Nat.zero_testBit, hj] at this
      cases ha : (aheadL r n).testBit j with
      | true => exact .inr rfl
      | false =>
        rw [ha] at this
        have h2 : (decide (0 ≤ (n : Int) ∧ (n : Int) < 64) && decide (n = j)) = true := by simpa using this
        rw [Bool.and_eq_true, decide_eq_true_eq, decide_eq_true_eq] at h2
        exact .inl h2.2.symm
end
end Go.Proofs.YtfancjmhdbaoeaaGreatDoor

namespace Go.Proofs.YtfancjmhdbaoeaaGreatDoor
set_option maxRecDepth 100000
open Go.RowKit

theorem row_perm {n : Nat} (hn : n ≤ 64) {L : List Nat} (h : L.Perm (List.range n)) : rowOkA (n : Int) (L.map Int.ofNat) = true := by
  have hl : (L.map Int.ofNat).length = n := by rw [List.length_map, h.length_eq, List.length_range]
  unfold rowOkA
  rw [hl, decide_eq_true rfl, Bool.true_and, decide_eq_true_eq, setL_eq]
  refine set_ext (isSet_ofL _) ?_ fun i hi => ?_
  · unfold belowS IsSet
    split
    · omega
    · split
      · omega
      · have := Nat.pow_lt_pow_right (a := 2) (by omega) (show (n : Int).toNat < 64 by omega)
        omega
  · rw [testBit_ofL, decide_eq_true hi, Bool.true_and]
    have e1 : hasL (L.map Int.ofNat) (i : Int) = decide (i < n) := by
      unfold hasL
      rw [Bool.eq_iff_iff, List.any_eq_true, decide_eq_true_eq]
      constructor
      · rintro ⟨a, ha, e⟩
        obtain ⟨k, hk, rfl⟩ := List.mem_map.1 ha
        have := List.mem_range.1 (h.mem_iff.1 hk)
        rw [beq_iff_eq] at e
        have : k = i := Int.ofNat.inj e
        omega
      · intro hin
        exact ⟨(i : Int), List.mem_map.2 ⟨i, h.mem_iff.2 (List.mem_range.2 hin), rfl⟩, by simp⟩
    rw [e1]
    unfold belowS
    by_cases h0 : (n : Int) ≤ 0
    · rw [if_pos h0, Nat.zero_testBit]
      exact decide_eq_false (by omega)
    · rw [if_neg h0]
      by_cases h64 : 64 ≤ (n : Int)
      · rw [if_pos h64]
        have : n = 64 := by omega
        subst this
        rw [show (18446744073709551615 : Nat) = 2 ^ 64 - 1 from rfl, Nat.testBit_two_pow_sub_one]
      · rw [if_neg h64, Int.toNat_natCast, Nat.testBit_two_pow_sub_one]
/-- What is the least keeps all that is asked. -/
theorem least_kept {h : List TxnV} {x : Nat} {l : List Int} {R : Mat} (hlt : x < 64) (hR : LeastIs h x l R) : lackN x (keptN h l R) = 0 := by
  have hx : x < 9223372036854775808 := by omega
  rw [lack_iff]
  intro k hb
  have hk6 : k < 6 := by
    apply Decidable.byContradiction
    intro hge
    have hp : (64 : Nat) ≤ 2 ^ k := by
      have := Nat.pow_le_pow_right (n := 2) (by omega) (show 6 ≤ k by omega)
      omega
    rw [Nat.testBit_lt_two_pow (by omega)] at hb
    cases hb
  rw [kept_bit h l R hk6, inM_iff]
  intro i j hi hj hm
  have h7 : k = 0 ∨ k = 1 ∨ k = 2 ∨ k = 3 ∨ k = 4 ∨ k = 5 := by omega
  rcases h7 with rfl | rfl | rfl | rfl | rfl | rfl
  · exact least_base hx hR hi hj (.inr (.inl ⟨hb, hm⟩))
  · obtain ⟨q, hq, a1, a2⟩ := (thenR_iff R R i j).1 hm
    exact (hR i j hi hj).2 (.trans (by rw [trB_bit _ hx]; exact hb) hq ((hR i q hi hq).1 a1) ((hR q j hq hj).1 a2))
  · obtain ⟨q, hq, a1, a2⟩ := (thenR_iff _ R i j).1 hm
    exact (hR i j hi hj).2 (.pre (by rw [pfB_bit _ hx]; exact hb) hq a1 ((hR q j hq hj).1 a2))
  · exact least_base hx hR hi hj (.inr (.inr (.inr (.inl ⟨hb, hm⟩))))
  · exact least_base hx hR hi hj (.inr (.inr (.inr (.inr ⟨hb, hm⟩))))
  · exact least_base hx hR hi hj (.inr (.inr (.inl ⟨hb, hm⟩)))
section
variable {h : List TxnV} {C : Nat}
theorem good_row (hc : checkI h = 0) {r : List Nat} (hnd : r.Nodup) (hlt : ∀ k ∈ r, k < h.length) (g : goodR h C r) : RowG h C r :=
  ⟨hnd, fun k hk => by have := hlt k hk; have := (check_zero hc).1; omega, fun k hk => (g k hk).1⟩
theorem sees_col {r : List Nat} {k : Nat} (hk : k < 64) : seeTo (seesR h C r) (k : Int) 64 = plSee h C r k := by
  refine set_ext (seeTo_set _ _ _) (plSee_set h C r k) fun j hj => ?_
  rw [seeTo_bit _ _ _ _ (Nat.le_refl 64), decide_eq_true hj, Bool.true_and, hasR_nat _ _ _ hj hk]; rfl
theorem seeTo_congr {R S : Mat} (h : ∀ i j, i < 64 → j < 64 → R i j = S i j) {k : Nat} (hk : k < 64) : seeTo R (k : Int) 64 = seeTo S (k : Int) 64 := by
  refine set_ext (seeTo_set _ _ _) (seeTo_set _ _ _) fun j hj => ?_
  rw [seeTo_bit _ _ _ _ (Nat.le_refl 64), seeTo_bit _ _ _ _ (Nat.le_refl 64), hasR_nat _ _ _ hj hk, hasR_nat _ _ _ hj hk, h j k hj hk]
/-- The reads of one, by what all see. -/
theorem good_right (hc : checkI h = 0) {r : List Nat} (g : RowG h C r) (hC : C < 9223372036854775808) (hlt : ∀ k ∈ r, k < h.length) {k : Nat} (hk : k ∈ r) :
    (readsOf h k).all (readOk h (r.reverse.map Int.ofNat) (seesR h C r) k) = readsP h (aheadL r) (plSee h C r k) k := by
  unfold readsP
  have hkn := hlt k hk
  have h64 := (check_zero hc).1
  refine all_congr _ fun x hx => ?_
  unfold readOk
  rw [sees_col (by omega)]
  refine read_last hc g.nd g.lt hkn (fun j hj => aheadL_mem g.lt (sees_ahead g.lt g.nd g.base hj)) hx fun n e => ?_
  rw [sees_fix g k hk]
  refine wld4_base ?_
  rcases read_from hc hkn hx with q | ⟨m, hm, q, _, _⟩
  · rw [e] at q; omega
  · have : n = m := by rw [e] at q; exact Int.ofNat.inj q
    subst this
    exact from_base hC h64 hkn hm hx q
theorem good_holds (hc : checkI h = 0) {lv : Int} (hlv : isLv lv = true) {r : List Nat} (hp : r.reverse.Perm (List.range h.length)) {R : Mat} (hR : LeastIs h (askN lv) (r.reverse.map Int.ofNat) R) :
    (holdsB h lv (r.reverse.map Int.ofNat) R = true ↔ soundTo h h.length = true ∧ goodR h (clI ((askN lv : Nat) : Int)) r) ∧
    (holdsB h lv (r.reverse.map Int.ofNat) R = true → ∀ j k, j < 64 → k < 64 → R j k = (plSee h (clI ((askN lv : Nat) : Int)) r k).testBit j) := by
  have h64 := (check_zero hc).1
  have hnd : r.Nodup := by
    have := (List.Perm.nodup_iff hp).2 List.nodup_range
    exact (List.reverse_perm r).nodup_iff.1 this
  have hmem : ∀ k, k ∈ r ↔ k < h.length := fun k => by rw [← List.mem_reverse, hp.mem_iff, List.mem_range]
  have hlt : ∀ k ∈ r, k < h.length := fun k hk => (hmem k).1 hk
  have hlt64 : ∀ k ∈ r, k < 64 := fun k hk => by have := hlt k hk; omega
  have hx := askN_lt lv
  have hx' : askN lv < 9223372036854775808 := by omega
  have hy : clI ((askN lv : Nat) : Int) < 9223372036854775808 := by have := clI_lt ((askN lv : Nat) : Int); omega
  obtain ⟨b0, b1, b2, b3, b4, b5⟩ := clI_bits (askN lv)
  generalize hCe : clI ((askN lv : Nat) : Int) = C at *
  have hNL : (r.reverse.map Int.ofNat).Nodup := nodup_ofNat ((List.reverse_perm r).nodup_iff.2 hnd)
  have hrow : rowOkA (h.length : Int) (r.reverse.map Int.ofNat) = true := row_perm h64 hp
  -- of a good row
  have K : RowG h C r → inM R (chainR (r.reverse.map Int.ofNat)) = true → ∀ j k, j < 64 → k < 64 → R j k = (plSee h C r k).testBit j := by
    intro g hin
    have hS : LeastIs h (clI ((askN lv : Nat) : Int)) (r.reverse.map Int.ofNat) (seesR h C r) := by rw [hCe]; exact sees_least g hy (fun k hk => (hmem k).2 hk)
    exact rowsA_inj (least_closed hc hNL hx' hR hS hin)
  have G : holdsB h lv (r.reverse.map Int.ofNat) R = true → RowG h C r := by
    intro hh
    unfold holdsB at hh
    simp only [Bool.and_eq_true] at hh
    obtain ⟨_, _, hr, _⟩ := hh
    unfold rightM at hr
    simp only [Bool.and_eq_true] at hr
    have hin := (inM_iff _ _).1 hr.2.1
    refine ⟨hnd, hlt64, fun k hk j hj => ?_⟩
    have hk64 := hlt64 k hk
    obtain ⟨hj64, hb⟩ := (baseN_bit hk64).1 hj
    rw [← ahead_chain hnd hlt64]
    refine hin j k hj64 hk64 ?_
    rw [baseM_iff h C hy] at hb
    rcases hb with hb | ⟨c0, hb⟩ | ⟨c5, hb⟩
    · exact least_base hx' hR hj64 hk64 (.inl hb)
    · rw [b0, Bool.or_eq_true] at c0
      rcases c0 with c0 | c0
      · exact least_base hx' hR hj64 hk64 (.inr (.inl ⟨c0, hb⟩))
      · exact least_base hx' hR hj64 hk64 (.inr (.inr (.inl ⟨c0, (inM_iff _ _).1 (ses_in_tim hc) j k hj64 hk64 hb⟩)))
    · rw [b5] at c5
      exact least_base hx' hR hj64 hk64 (.inr (.inr (.inl ⟨c5, hb⟩)))
  have RT : RowG h C r → (∀ j k, j < 64 → k < 64 → R j k = (plSee h C r k).testBit j) → (rightTo h (r.reverse.map Int.ofNat) R h.length = true ↔ ∀ k ∈ r, readsP h (aheadL r) (plSee h C r k) k = true) := by
    intro g e
    have e2 : ∀ k ∈ r, (readsOf h k).all (readOk h (r.reverse.map Int.ofNat) R k) = readsP h (aheadL r) (plSee h C r k) k := by
      intro k hk
      rw [← good_right hc g hy hlt hk]
      refine all_congr _ fun x _ => ?_
      unfold readOk
      rw [seeTo_congr (R := R) (S := seesR h C r) e (hlt64 k hk)]
    unfold rightTo
    rw [List.all_eq_true]
    constructor
    · intro q k hk
      rw [← e2 k hk]
      exact q k (List.mem_range.2 (hlt k hk))
    · intro q k hk
      have hk := (hmem k).2 (List.mem_range.1 hk)
      rw [e2 k hk]
      exact q k hk
  have HH : holdsB h lv (r.reverse.map Int.ofNat) R = true → inM R (chainR (r.reverse.map Int.ofNat)) = true := by
    intro hh
    unfold holdsB rightM at hh
    simp only [Bool.and_eq_true] at hh
    exact hh.2.2.1.2.1
  refine ⟨⟨fun hh => ?_, fun ⟨hs, hg⟩ => ?_⟩, fun hh => K (G hh) (HH hh)⟩
  · have g := G hh
    have e := K g (HH hh)
    have hh2 := hh
    unfold holdsB rightM at hh2
    simp only [Bool.and_eq_true] at hh2
    refine ⟨hh2.2.1, fun k hk => ⟨g.base k hk, (RT g e).1 hh2.2.2.1.2.2 k hk⟩⟩
  · have g := good_row hc hnd hlt hg
    have hS := sees_least g hy (fun k hk => (hmem k).2 hk)
    have hin : inM R (chainR (r.reverse.map Int.ofNat)) = true := by
      refine inM_trans (least_mono (y := C) hx' hy (fun k hk => ?_) hR hS) ?_
      · have hk6 : k < 6 := by
          apply Decidable.byContradiction
          intro hge
          have hp : (64 : Nat) ≤ 2 ^ k := by
            have := Nat.pow_le_pow_right (n := 2) (by omega) (show 6 ≤ k by omega)
            omega
          rw [Nat.testBit_lt_two_pow (by omega)] at hk
          cases hk
        have h7 : k = 0 ∨ k = 1 ∨ k = 2 ∨ k = 3 ∨ k = 4 ∨ k = 5 := by omega
        rcases h7 with rfl | rfl | rfl | rfl | rfl | rfl
        · rw [b0, hk]; rfl
        · rw [b1, hk]; rfl
        · rw [b2, hk]; rfl
        · rw [b3, hk]; rfl
        · rw [b4, hk]
        · rw [b5, hk]
      · rw [inM_iff]
        intro j k _ _ hs
        rw [ahead_chain hnd hlt64]
        exact sees_ahead g.lt g.nd g.base hs
    have e := K g hin
    unfold holdsB rightM
    rw [hlv, hs, hrow, hin, (RT g e).2 fun k hk => (hg k hk).2, least_kept hx hR]; rfl
end
end Go.Proofs.YtfancjmhdbaoeaaGreatDoor

namespace Go.Proofs.YtfancjmhdbaoeaaGreatDoor
set_option maxRecDepth 100000
open Go.RowKit

section
variable {W : World} {S B b : Nat} {h : List TxnV} {C : Nat} {r : List Nat} {vb vr : Value} {aF sF : Nat → Nat} {w : World}
theorem PlIs.row (p : PlIs W S B b h C r vb vr aF sF w) : Ints w vr (r.reverse.map Int.ofNat) := by
  have h1 := Row.of_owns p.rw
  unfold Ints
  rw [List.map_map]
  have : (Value.int IntKind.i64 ∘ Int.ofNat) = fun i : Nat => Value.int .i64 (i : Int) := rfl
  rw [this, List.length_map, List.length_reverse]
  exact h1
theorem PlIs.form (p : PlIs W S B b h C r vb vr aF sF w) : ∃ ao cap, vr = .slice ao r.length cap := by
  obtain ⟨ao, cap, e, _⟩ := p.row.form
  rw [List.length_map, List.length_reverse] at e
  exact ⟨ao, cap, e⟩
theorem nodup_len : ∀ (n : Nat) (l : List Nat), l.Nodup → (∀ k ∈ l, k < n) → l.length ≤ n
  | 0, [], _, _ => Nat.le_refl _
  | 0, k :: l, _, h => absurd (h k (List.mem_cons_self ..)) (by omega)
  | n + 1, l, hn, h => by
    by_cases hm : n ∈ l
    · have h1 := nodup_len n (l.erase n) (hn.erase n) (fun k hk => by
        have := (hn.mem_erase_iff).1 hk
        have := h k this.2
        omega)
      have h2 := List.length_erase_of_mem hm
      have h3 := List.length_pos_of_mem hm
      omega
    · have := nodup_len n l hn (fun k hk => by
        have := h k hk
        have : k ≠ n := fun e => hm (by rw [← e]; exact hk)
        omega)
      omega
theorem PlIs.len (p : PlIs W S B b h C r vb vr aF sF w) : r.length ≤ h.length := nodup_len _ _ p.nd p.lt
set_option maxHeartbeats 4000000 in
theorem pdone_any (p : PlIs W S B b h C r vb vr aF sF w) : Calls Tryz.prog 41 #[.pointer (some ⟨S, 0, none⟩)] w fun e w' => e = .returned (.bool (decide (r.length = h.length))) ∧ Below w.heap.size w w' := by
  have h1 := p.a.cR
  have h0 := p.a.cO
  have h2 := p.ord.blk.cN
  obtain ⟨ao, cap, rfl⟩ := p.form
  have HE : Hid ((((r.length : Int) == (h.length : Int)) : Bool) = decide (r.length = h.length)) := Lib.hid (by
    rw [Bool.eq_iff_iff, beq_iff_eq, decide_eq_true_eq]; omega)
  generalize decide (r.length = h.length) = x at *
  clear p
  go_enter Tryz.func41, Tryz.ntmps41
  go_wp2_with fail
  go_quiet (fail)
  go_wp2_with fail
  go_ret
  exact ⟨ret_b HE.out, below_drewN (Below.refl _ _) _⟩
end
theorem joinF_fold (F : Nat → Nat) : ∀ (l : List Nat) (s : Nat), l.foldl (fun s k => s ||| F k) s = s ||| joinL F l
  | [], s => by rw [joinL_nil]; simp
  | k :: l, s => by
    have e : joinL F (k :: l) = F k ||| joinL F l := by
      show l.foldl _ (0 ||| F k) = _
      rw [joinF_fold F l, Nat.zero_or]
    rw [List.foldl_cons, joinF_fold F l, e, Nat.or_assoc]
theorem joinN_step {F : Nat → Nat} {c : Nat} (hne : lst c ≠ []) (a : Nat) : a ||| joinN F c = (a ||| F (fst c)) ||| joinN F (woS c (fst c : Int)) := by
  have e : lst c = fst c :: lst (woS c (fst c : Int)) := by
    have := lst_step (S := c) (c := c) (acc := []) (by simp) hne
    simpa using this
  unfold joinN
  rw [e]
  show a ||| (lst (woS c (fst c : Int))).foldl _ (0 ||| F (fst c)) = _
  rw [joinF_fold, Nat.zero_or, Nat.or_assoc]
set_option maxHeartbeats 8000000 in
theorem joined_any (S o : Nat) (F : Nat → Nat) (s : Nat) (w : World) (hs : IsSet s) (hF : ∀ k, k < 64 → IsSet (F k)) (hcell : ∀ k, k < 64 → w.cell? ⟨S, o + k, none⟩ = some (.int .u64 ((F k : Nat) : Int))) (ht : Tab w) :
    Calls Tryz.prog 148 #[.int .u64 (s : Int), .pointer (some ⟨S, o, none⟩)] w fun e w' => e = .returned (.int .u64 ((joinN F s : Nat) : Int)) ∧ Below w.heap.size w w' := by
  have HT := Lib.hid (fun wx (hx : Below w.heap.size w wx) => ht.below hx ht.pos)
  have HC := Lib.hid (fun wx (hx : Below w.heap.size w wx) k (hk : k < 64) => (hx.cell (p := ⟨S, o + k, none⟩) (block_lt (hcell k hk))).trans (hcell k hk))
  have HF := Lib.hid hF
  have HV : Hid (joinN F s = 0 ||| joinN F s) := Lib.hid (Nat.zero_or _).symm
  clear hcell ht hF
  go_enter Tryz.func148, Tryz.ntmps148
  go_wp2_with fail
  go_loopw [0, 5] (fun v x wr => ∃ c a : Nat, IsSet c ∧ IsSet a ∧ v = .int .u64 (c : Int) ∧ x = .int .u64 (a : Int) ∧ Hid (joinN F s = a ||| joinN F c) ∧ Below w.heap.size w wr)
    (fun v _ _ => (lst (intOf v).toNat).length)
  case atStart => exact ⟨s, 0, hs, by unfold IsSet; omega, rfl, rfl, HV, Below.refl _ _⟩
  case round =>
    clear HV
    obtain ⟨c, a, hc, ha, rfl, rfl, HJ, hb⟩ := hrel
    rcases Nat.eq_zero_or_pos c with h0 | h0
    · subst h0
      have HR : Hid (((a : Nat) : Int) = ((joinN F s : Nat) : Int)) := Lib.hid (by rw [HJ.out]; unfold joinN; rw [lst_zero, joinL_nil, Nat.or_zero])
      go_wp2_with fail
      go_ret
      exact ⟨ret_i HR.out, hb⟩
    · have hne := lst_ne hc h0
      have h0i : ((c : Int) != 0) = true := by rw [bne_iff_ne]; omega
      have hwo := isSet_woS (n := (fst c : Int)) hc
      have hfl : fst c < 64 := fst_lt hne
      have HN : Hid (joinN F s = (a ||| F (fst c)) ||| joinN F (woS c (fst c : Int))) := Lib.hid (by rw [HJ.out, joinN_step hne])
      have HD := Lib.hid (lst_less hne)
      have hff := HF.out _ hfl
      have hor := isSet_or ha hff
      have HOR : Hid (Go.bits .or .u64 (a : Int) ((F (fst c) : Nat) : Int) = ((a ||| F (fst c) : Nat) : Int)) := Lib.hid (Go.bits_or_u64_nat _ _ ha hff)
      have CF := Lib.hid (fun n => (first_any c (wr.drewN n) hc (HT.out _ (below_drewN hb n))).mono fun _ _ h => And.intro h.1 h.2.symm)
      have CF2 := Lib.hid (fun wx (hx : Below w.heap.size w wx) => first_any c wx hc (HT.out _ hx))
      have CW := Lib.hid (fun wx => wo_any c (fst c : Int) wx hc)
      have hcell := HC.out _ hb _ hfl
      generalize woS c (fst c : Int) = c2 at *
      generalize F (fst c) = y at *
      generalize fst c = f at *
      have hfi : (f : Int) < 64 := by omega
      clear hne HJ h0
      go_wp2_with fail
      go_quiet ((go_at_call 162; exact Calls.quiet_of_same (CF.out _)))
      rw [HOR.out]
      have hb2 := below_drewN hb nq
      generalize wr.drewN nq = w2 at *
      go_wp2_with (first
        | (go_at_call 162; refine (CF2.out _ hb2).mono ?_; rintro e w' ⟨rfl, rfl⟩)
        | (go_at_call 87; refine (CW.out _).mono ?_; rintro e w' ⟨rfl, rfl⟩))
      go_roundw
      case rel => exact ⟨c2, a ||| y, hwo, hor, rfl, rfl, HN, hb2⟩
      case measure => simp only [intOf, Int.toNat_natCast]; exact HD.out
end Go.Proofs.YtfancjmhdbaoeaaGreatDoor

namespace Go.Proofs.YtfancjmhdbaoeaaGreatDoor
set_option maxRecDepth 100000
open Go.RowKit

theorem prV_int {l : List Pr} {u : Value} (h : u ∈ prV l) : ∃ x : Int, u = .int .i64 x := by
  unfold prV at h
  obtain ⟨p, _, hp⟩ := List.mem_flatMap.1 h
  simp at hp
  rcases hp with rfl | rfl
  · exact ⟨_, rfl⟩
  · exact ⟨_, rfl⟩
theorem rowsA_u64 (V : Mat) {i : Nat} {u : Value} (h : (rowsA V)[i]? = some u) : ∃ n : Int, u = .int .u64 n := by
  have hi : i < 64 := by
    have := (Array.getElem?_eq_some_iff.1 h).1
    rwa [rowsA_size] at this
  rw [rowsA_at V hi] at h
  cases h
  exact ⟨_, rfl⟩
/-- A relation that is changed leaves pairs as they are. -/
theorem Prs.apart {w w' : World} {v : Value} {l : List Pr} {g : Nat} {V : Mat} (h : Prs w v l) (hV : RelAt w g 37 V) (hg : w.grownBy w' (some g)) : Prs w' v l := by
  obtain ⟨hl, ao, cap, rfl, hm, hno, hc⟩ := h
  refine ⟨hl, ao, cap, rfl, hm, hno, fun hn => ?_⟩
  obtain ⟨b, off, rfl, hcell⟩ := hc hn
  refine ⟨b, off, rfl, fun i hi => ?_⟩
  have h2 := hcell i hi
  rw [List.getElem?_eq_getElem (by omega)] at h2 ⊢
  refine hg.cell h2 (fun e => ?_)
  obtain rfl : b = g := by simpa using e
  obtain ⟨x, hx⟩ := prV_int (List.getElem_mem (show i < (prV l).length by omega))
  rw [cell_of_row w b (off + i) _ _ _ hV] at h2
  obtain ⟨n, hn2⟩ := rowsA_u64 V h2
  rw [hx] at hn2; cases hn2
/-- What lies there while pairs are put in. -/
structure Vis (B : Nat) (pv pl : Nat) (V : Mat) (m : List Pr) (w0 w : World) : Prop where
  rel : RelAt w pv 37 V
  box : ∃ vm, At w pl (.cells #[vm] 41) ∧ Prs w vm m
  rep : Rep V m
  below : Below B w0 w
theorem Vis.mono {B pv pl : Nat} {V : Mat} {m : List Pr} {w0 w w' : World} (h : Vis B pv pl V m w0 w) (hb : Below w.heap.size w w') (hB : B ≤ w.heap.size) : Vis B pv pl V m w0 w' := by
  obtain ⟨h1, ⟨vm, h2, h3⟩, h4, h5⟩ := h
  exact ⟨h1.below hb h1.lt, ⟨vm, h2.below hb, h3.below hb⟩, h4, h5.trans (hb.mono hB)⟩
end Go.Proofs.YtfancjmhdbaoeaaGreatDoor

namespace Go.Proofs.YtfancjmhdbaoeaaGreatDoor
set_option maxRecDepth 100000
open Go.RowKit

/-- The slice v holds slices, of which each holds these ints. -/
def Lists (w : World) (v : Value) (LL : List (List Int)) : Prop := ∃ sv : List Value, Row w v LL.length 1 sv ∧ ∀ (k : Nat) (hk : k < LL.length), ∃ u, sv[k]? = some u ∧ Ints w u LL[k]
theorem Lists.below {w w' : World} {v : Value} {LL : List (List Int)} (h : Lists w v LL) (hb : Below w.heap.size w w') : Lists w' v LL := by
  obtain ⟨sv, h1, h2⟩ := h
  exact ⟨sv, h1.below hb, fun k hk => by obtain ⟨u, hu, hi⟩ := h2 k hk; exact ⟨u, hu, hi.below hb⟩⟩
theorem Lists.form {w : World} {v : Value} {LL : List (List Int)} (h : Lists w v LL) : ∃ ao cap, v = .slice ao LL.length cap ∧ LL.length ≤ 9223372036854775807 := by
  obtain ⟨sv, ⟨_, ao, cap, rfl, hm, _, _⟩, _⟩ := h
  exact ⟨ao, cap, rfl, Nat.le_trans hm.1 hm.2⟩
theorem Lists.at {w : World} {ao : Option Addr} {n cap : Nat} {LL : List (List Int)} (h : Lists w (.slice ao n cap) LL) {k : Nat} (hk : k < LL.length) :
    ∃ b off u, ao = some ⟨b, off, none⟩ ∧ w.cell? ⟨b, off + k, none⟩ = some u ∧ Ints w u LL[k] := by
  obtain ⟨sv, ⟨_, ao', cap', he, _, _, hc⟩, h2⟩ := h
  cases he
  obtain ⟨b, off, e, hcell⟩ := hc (by omega)
  obtain ⟨u, hu, hi⟩ := h2 k hk
  exact ⟨b, off, u, e, by rw [hcell k (by omega), hu], hi⟩
theorem results_rel2 {fn : Func} {p u : Tmp} (h : fn.results = #[.cell p 37, .tmp u]) (tmps : Array Value) (w : World) (g : Nat) (R : Mat)
    (hp : tmps.getD p undef = .pointer (some ⟨g, 0, none⟩)) (hg : RelAt w g 37 R) : (results fn tmps).run Tryz.prog w = .ok (.tuple #[.agg (rowsA R), tmps.getD u undef]) w := by
  have hp' : tmps[p]?.getD undef = .pointer (some ⟨g, 0, none⟩) := by simpa using hp
  simp [results, h, hp', asAddr, run_loadVar_row w g _ 37 (rowsA R) _ _ hg Tryz.underlying37 rfl (infoRel' _)]
end Go.Proofs.YtfancjmhdbaoeaaGreatDoor

namespace Go.Proofs.YtfancjmhdbaoeaaGreatDoor
set_option maxRecDepth 100000
open Go.RowKit

theorem least_some (h : List TxnV) (x : Nat) (l : List Int) : ∃ R, LeastIs h x l R :=
  ⟨fun i j => @decide (Must (startM h (x : Int) (chainR l)) (chainR l) (trB x) (pfB x) i j) (Classical.propDecidable _), fun i j _ _ => by simp⟩
/-- What In hands back. -/
def inR (h : List TxnV) (lv : Int) (l : List Int) (R : Mat) : Mat := if holdsB h lv l R = true then R else noR
set_option maxRecDepth 100000 in
set_option maxHeartbeats 16000000 in
theorem bin_any (lv : Int) (va : Value) (l : List Int) (h : List TxnV) (B b : Nat) (w : World) (hO : OrdIs w B b h) (hc : checkI h = 0) (ht : Tab w) (hK : Kinds w) (hl : Ints w va l) :
    Calls Tryz.prog 13 #[.pointer (some ⟨B, 0, none⟩), .int .i64 lv, va] w fun e w' => (∃ R, LeastIs h (askN lv) l R ∧ e = .returned (.tuple #[.agg (rowsA (inR h lv l R)), .bool (holdsB h lv l R)])) ∧ Below w.heap.size w w' := by
  have hg := ht.pos
  have HT : Hid (∀ wx, Below w.heap.size w wx → Tab wx ∧ Kinds wx) := Lib.hid (fun wx hb => ⟨ht.below hb hg, hK.below hb⟩)
  have HO := Lib.hid (fun wx (hx : Below w.heap.size w wx) => hO.below hx)
  have HL := Lib.hid (fun wx (hx : Below w.heap.size w wx) => hl.below hx)
  have HC := Lib.hid hc
  have CA := Lib.hid (fun wx (hx : Below w.heap.size w wx) => arow_any (h.length : Int) _ l wx (HL.out wx hx))
  have CK := Lib.hid (fun wx (hx : Below w.heap.size w wx) => lasks_any lv wx (HT.out wx hx).2)
  have CL := Lib.hid (fun wx (hx : Below w.heap.size w wx) => lof_any ((askN lv : Nat) : Int) _ l h B b wx (HO.out wx hx) HC.out (HT.out wx hx).1 (HL.out wx hx))
  have CH := Lib.hid (fun V wx (hx : Below w.heap.size w wx) => aholds_any lv _ l V h B b wx (HO.out wx hx) HC.out (HT.out wx hx).1 (HT.out wx hx).2 (HL.out wx hx))
  obtain ⟨ao, cap, rfl, hal⟩ := hl.form
  have hb0 := box_below w (.cells #[.int .u64 0, .int .u64 0, .int .u64 0, .int .u64 0, .int .u64 0, .int .u64 0, .int .u64 0, .int .u64 0, .int .u64 0, .int .u64 0, .int .u64 0, .int .u64 0, .int .u64 0, .int .u64 0, .int .u64 0, .int .u64 0, .int .u64 0, .int .u64 0, .int .u64 0, .int .u64 0, .int .u64 0, .int .u64 0, .int .u64 0, .int .u64 0, .int .u64 0, .int .u64 0, .int .u64 0, .int .u64 0, .int .u64 0, .int .u64 0, .int .u64 0, .int .u64 0, .int .u64 0, .int .u64 0, .int .u64 0, .int .u64 0, .int .u64 0, .int .u64 0, .int .u64 0, .int .u64 0, .int .u64 0, .int .u64 0, .int .u64 0, .int .u64 0, .int .u64 0, .int .u64 0, .int .u64 0, .int .u64 0, .int .u64 0, .int .u64 0, .int .u64 0, .int .u64 0, .int .u64 0, .int .u64 0, .int .u64 0, .int .u64 0, .int .u64 0, .int .u64 0, .int .u64 0, .int .u64 0, .int .u64 0, .int .u64 0, .int .u64 0, .int .u64 0] 37)
  have z0 := zero_block w
  have n0 := (HO.out _ hb0).blk.cN
  have hs0 : (w.alloc (.cells #[.int .u64 0, .int .u64 0, .int .u64 0, .int .u64 0, .int .u64 0, .int .u64 0, .int .u64 0, .int .u64 0, .int .u64 0, .int .u64 0, .int .u64 0, .int .u64 0, .int .u64 0, .int .u64 0, .int .u64 0, .int .u64 0, .int .u64 0, .int .u64 0, .int .u64 0, .int .u64 0, .int .u64 0, .int .u64 0, .int .u64 0, .int .u64 0, .int .u64 0, .int .u64 0, .int .u64 0, .int .u64 0, .int .u64 0, .int .u64 0, .int .u64 0, .int .u64 0, .int .u64 0, .int .u64 0, .int .u64 0, .int .u64 0, .int .u64 0, .int .u64 0, .int .u64 0, .int .u64 0, .int .u64 0, .int .u64 0, .int .u64 0, .int .u64 0, .int .u64 0, .int .u64 0, .int .u64 0, .int .u64 0, .int .u64 0, .int .u64 0, .int .u64 0, .int .u64 0, .int .u64 0, .int .u64 0, .int .u64 0, .int .u64 0, .int .u64 0, .int .u64 0, .int .u64 0, .int .u64 0, .int .u64 0, .int .u64 0, .int .u64 0, .int .u64 0] 37)).heap.size = w.heap.size + 1 := by simp
  clear hO hc ht hK hl
  go_enter Tryz.func13, Tryz.ntmps13
  go_upto_region 1 with fail
  generalize w.alloc (.cells #[.int .u64 0, .int .u64 0, .int .u64 0, .int .u64 0, .int .u64 0, .int .u64 0, .int .u64 0, .int .u64 0, .int .u64 0, .int .u64 0, .int .u64 0, .int .u64 0, .int .u64 0, .int .u64 0, .int .u64 0, .int .u64 0, .int .u64 0, .int .u64 0, .int .u64 0, .int .u64 0, .int .u64 0, .int .u64 0, .int .u64 0, .int .u64 0, .int .u64 0, .int .u64 0, .int .u64 0, .int .u64 0, .int .u64 0, .int .u64 0, .int .u64 0, .int .u64 0, .int .u64 0, .int .u64 0, .int .u64 0, .int .u64 0, .int .u64 0, .int .u64 0, .int .u64 0, .int .u64 0, .int .u64 0, .int .u64 0, .int .u64 0, .int .u64 0, .int .u64 0, .int .u64 0, .int .u64 0, .int .u64 0, .int .u64 0, .int .u64 0, .int .u64 0, .int .u64 0, .int .u64 0, .int .u64 0, .int .u64 0, .int .u64 0, .int .u64 0, .int .u64 0, .int .u64 0, .int .u64 0, .int .u64 0, .int .u64 0, .int .u64 0, .int .u64 0] 37) = w1 at *
  cases hrow : rowOkA (h.length : Int) l with
  | false =>
    obtain ⟨R, hR⟩ := least_some h (askN lv) l
    have hF : holdsB h lv l R = false := by unfold holdsB rightM; rw [hrow]; simp
    have HV : Hid (rowsA noR = rowsA (inR h lv l R) ∧ false = holdsB h lv l R) := Lib.hid ⟨by unfold inR; rw [hF]; rfl, hF.symm⟩
    have HR := Lib.hid hR
    rw [hrow] at CA
    clear CK CL CH hF hR hrow
    go_wp2_with fail
    refine (CA.out _ hb0).mono ?_
    rintro e wq ⟨rfl, rfl⟩
    go_wp2_with (with_reducible refine wpList_store_rel z0 noR rfl _ _ rfl rfl rfl ?_)
    have z1 := z0.setRow noR
    exact bodyPost_ret (results_rel2 rfl _ _ _ _ rfl z1) rfl ⟨⟨R, HR.out, by rw [← HV.out.1, ← HV.out.2]; rfl⟩, below_setRow hb0 (Nat.le_refl _) _⟩
  | true =>
    rw [hrow] at CA
    clear hrow
    go_wp2_with fail
    refine (CA.out _ hb0).mono ?_
    rintro e wq ⟨rfl, rfl⟩
    go_wp2_with fail
    refine (CK.out _ hb0).mono ?_
    rintro e wq ⟨rfl, rfl⟩
    go_wp2_with fail
    refine (CL.out _ hb0).mono ?_
    rintro e w2 ⟨⟨R, rfl, hR⟩, h2⟩
    have hb2 := below_then hb0 h2
    have z2 := z0.below h2 z0.lt
    have r2 := zero_block w2
    have hsz := h2.size
    have z2 := z2.alloc (.cells #[.int .u64 0, .int .u64 0, .int .u64 0, .int .u64 0, .int .u64 0, .int .u64 0, .int .u64 0, .int .u64 0, .int .u64 0, .int .u64 0, .int .u64 0, .int .u64 0, .int .u64 0, .int .u64 0, .int .u64 0, .int .u64 0, .int .u64 0, .int .u64 0, .int .u64 0, .int .u64 0, .int .u64 0, .int .u64 0, .int .u64 0, .int .u64 0, .int .u64 0, .int .u64 0, .int .u64 0, .int .u64 0, .int .u64 0, .int .u64 0, .int .u64 0, .int .u64 0, .int .u64 0, .int .u64 0, .int .u64 0, .int .u64 0, .int .u64 0, .int .u64 0, .int .u64 0, .int .u64 0, .int .u64 0, .int .u64 0, .int .u64 0, .int .u64 0, .int .u64 0, .int .u64 0, .int .u64 0, .int .u64 0, .int .u64 0, .int .u64 0, .int .u64 0, .int .u64 0, .int .u64 0, .int .u64 0, .int .u64 0, .int .u64 0, .int .u64 0, .int .u64 0, .int .u64 0, .int .u64 0, .int .u64 0, .int .u64 0, .int .u64 0, .int .u64 0] 37)
    have hb3 := hb2.alloc hb2.size (.cells #[.int .u64 0, .int .u64 0, .int .u64 0, .int .u64 0, .int .u64 0, .int .u64 0, .int .u64 0, .int .u64 0, .int .u64 0, .int .u64 0, .int .u64 0, .int .u64 0, .int .u64 0, .int .u64 0, .int .u64 0, .int .u64 0, .int .u64 0, .int .u64 0, .int .u64 0, .int .u64 0, .int .u64 0, .int .u64 0, .int .u64 0, .int .u64 0, .int .u64 0, .int .u64 0, .int .u64 0, .int .u64 0, .int .u64 0, .int .u64 0, .int .u64 0, .int .u64 0, .int .u64 0, .int .u64 0, .int .u64 0, .int .u64 0, .int .u64 0, .int .u64 0, .int .u64 0, .int .u64 0, .int .u64 0, .int .u64 0, .int .u64 0, .int .u64 0, .int .u64 0, .int .u64 0, .int .u64 0, .int .u64 0, .int .u64 0, .int .u64 0, .int .u64 0, .int .u64 0, .int .u64 0, .int .u64 0, .int .u64 0, .int .u64 0, .int .u64 0, .int .u64 0, .int .u64 0, .int .u64 0, .int .u64 0, .int .u64 0, .int .u64 0, .int .u64 0] 37)
    have hne : w.heap.size < w2.heap.size := by have := z0.lt; omega
    clear CA CK CL hb0 h2 hb2 z0 n0 hs0
    go_upto_region 4 with (with_reducible refine wpList_store_rel r2 R rfl _ _ rfl rfl rfl ?_)
    have r3 := r2.setRow R
    have z3 := z2.far (by omega : w.heap.size ≠ w2.heap.size) (rowsA R)
    have hb4 := below_setRow hb3 (Nat.le_of_lt hne) (rowsA R)
    generalize World.setRow _ _ _ = w3 at *
    generalize w2.heap.size = m at *
    clear r2 z2 hb3 hsz
    have HRL : Hid (LeastIs h (askN lv) l R) := Lib.hid hR
    clear hR
    cases hh : holdsB h lv l R with
    | false =>
      have HV : Hid (rowsA noR = rowsA (inR h lv l R)) := Lib.hid (by unfold inR; rw [hh]; rfl)
      have CHH := Lib.hid (CH.out R _ hb4)
      rw [hh] at CHH
      have HHH := Lib.hid hh
      clear hh CH
      go_wp2_with (with_reducible refine wpList_load_rel r3 rfl _ rfl rfl ?_)
      refine (CHH.out).mono ?_
      rintro e w4 ⟨rfl, h4⟩
      have z4 := z3.below h4 z3.lt
      have hb5 := below_then hb4 h4
      clear r3 z3 hb4 CHH h4
      go_wp2_with (with_reducible refine wpList_store_rel z4 noR rfl _ _ rfl rfl rfl ?_)
      have z5 := z4.setRow noR
      exact bodyPost_ret (results_rel2 rfl _ _ _ _ rfl z5) rfl ⟨⟨R, HRL.out, by rw [← HV.out, HHH.out]; rfl⟩, below_setRow hb5 (Nat.le_refl _) _⟩
    | true =>
      have HV : Hid (rowsA R = rowsA (inR h lv l R)) := Lib.hid (by unfold inR; rw [hh]; rfl)
      have CHH := Lib.hid (CH.out R _ hb4)
      rw [hh] at CHH
      have HHH := Lib.hid hh
      clear hh CH
      go_wp2_with (with_reducible refine wpList_load_rel r3 rfl _ rfl rfl ?_)
      refine (CHH.out).mono ?_
      rintro e w4 ⟨rfl, h4⟩
      have z4 := z3.below h4 z3.lt
      have r4 := r3.below h4 r3.lt
      have hb5 := below_then hb4 h4
      clear r3 z3 hb4 CHH h4
      go_wp2_with (first
        | (with_reducible refine wpList_load_rel r4 rfl _ rfl rfl ?_)
        | (with_reducible refine wpList_store_rel z4 R rfl _ _ rfl rfl rfl ?_))
      have z5 := z4.setRow R
      exact bodyPost_ret (results_rel2 rfl _ _ _ _ rfl z5) rfl ⟨⟨R, HRL.out, by rw [← HV.out, HHH.out]; rfl⟩, below_setRow hb5 (Nat.le_refl _) _⟩
end Go.Proofs.YtfancjmhdbaoeaaGreatDoor

namespace Go.Proofs.YtfancjmhdbaoeaaGreatDoor
set_option maxRecDepth 100000
open Go.RowKit Go.Shelf
attribute [local go_sem] Oper.semAt_some

/-- Is a level kept in an order: may all come, one behind the other? -/
def keptL (h : List TxnV) (lv : Int) (row : List Nat) : Bool := isLv lv && (soundTo h h.length && allT h (clI ((askN lv : Nat) : Int)) [] row)
theorem kept_holds {h : List TxnV} (hc : checkI h = 0) (lv : Int) {row : List Nat} (hp : row.Perm (List.range h.length)) {R : Mat} (hR : LeastIs h (askN lv) (row.map Int.ofNat) R) : holdsB h lv (row.map Int.ofNat) R = keptL h lv row := by
  cases hlv : isLv lv with
  | false => unfold holdsB keptL; rw [hlv]; rfl
  | true =>
    have hC : clI ((askN lv : Nat) : Int) < 9223372036854775808 := by have := clI_lt ((askN lv : Nat) : Int); omega
    have hnd : row.Nodup := (List.Perm.nodup_iff hp).2 List.nodup_range
    have hlt : ∀ k ∈ row, k < h.length := fun k hk => List.mem_range.1 (hp.mem_iff.1 hk)
    have h1 := (good_holds hc hlv (r := row.reverse) (R := R) (by rw [List.reverse_reverse]; exact hp) (by rw [List.reverse_reverse]; exact hR)).1
    rw [List.reverse_reverse] at h1
    have h2 := allT_iff hc hC row [] (by rw [List.append_nil]; exact (List.reverse_perm row).nodup_iff.2 hnd) (fun a ha => hlt a (by simpa using ha)) (fun k hk => by cases hk)
    rw [List.append_nil] at h2
    unfold keptL
    rw [Bool.eq_iff_iff, h1, hlv, Bool.true_and, Bool.and_eq_true, h2]
/-- An order of all is all numbers, each once. -/
theorem perm_range {n : Nat} {row : List Nat} (hnd : row.Nodup) (hlt : ∀ i ∈ row, i < n) (hl : row.length = n) : row.Perm (List.range n) := by
  have hmem : ∀ j, j < n → j ∈ row := fun j hj => by
    by_cases h : j ∈ row
    · exact h
    · have := nodup_len n (j :: row) (List.nodup_cons.2 ⟨h, hnd⟩) (fun k hk => by
        rcases List.mem_cons.1 hk with rfl | hk
        · exact hj
        · exact hlt k hk)
      simp at this; omega
  rw [List.perm_iff_count]
  intro j
  rw [hnd.count, List.nodup_range.count]
  simp only [List.mem_range]
  by_cases h : j < n
  · rw [if_pos (hmem j h), if_pos h]
  · rw [if_neg (fun q => h (hlt j q)), if_neg h]
theorem orders_perm {n : Nat} {row : List Nat} (h : row ∈ ordersN n) : row.Perm (List.range n) := by
  obtain ⟨a, b, c, _⟩ := mem_exts h
  exact perm_range (a List.nodup_nil) (b (fun i hi => by cases hi)) (by simpa using c)
theorem mem_of_prefix {α : Type} {pre : List α} {r : α} {L : List α} (h : (pre ++ [r]) <+: L) : r ∈ L := h.subset (by simp)

/-- A relation as a whole is stored, or loaded, in a round's walk. -/
theorem wpListIn_store_rel {F : Fence} {n : Nat} {ops : Array Oper} {rest : List Oper} {o : Oper} {a : Act} {w : World} {Q : Exit → Act → World → Prop} {g : Nat} {S : Mat} (h : RelAt w g 37 S) (R : Mat) (hgd : o.guard = none) (x y : Operand) (ho : o.op = .store 37 x y)
    (hx : a.eval x = .pointer (some ⟨g, 0, none⟩)) (hy : a.eval y = .agg (rowsA R)) (hn : wpListIn F n Tryz.prog ops Q rest (a.put o.dst undef) (w.setRow g (rowsA R))) : wpListIn F n Tryz.prog ops Q (o :: rest) a w := by
  refine wpListIn_plain hgd fun K hK => ?_
  unfold Oper.wpIn
  refine ⟨fun f hf => by simp [Oper.about, ho] at hf, ?_⟩
  rw [Oper.semAt_eq _ _ _ (by rw [ho]; intro c hc; cases hc)]
  unfold execOp
  simp only [ho, hx, hy, Instr.storeAt, Instr.sureAddr, Sem.run_bind, Sem.run_pure, Result.andThen_ok, run_storeVar_row w g _ 37 _ (rowsA R) h (infoRel' _) (by rw [rowsA_size, rowsA_size]) (rows_one _)]
  exact hK _ _ hn
theorem ints_nil (W : World) : Ints W (.slice none 0 0) [] := ⟨rfl, none, 0, rfl, ⟨Nat.le_refl _, by decide⟩, fun _ => ⟨rfl, rfl⟩, fun h => absurd h (Nat.lt_irrefl _)⟩
set_option maxHeartbeats 1000000 in
theorem orders_any (many : Int) (w : World) :
    Calls Tryz.prog 73 #[.int .i64 many] w fun e w' => e = .returned (.func (.func 137) #[] #[.pointer (some ⟨w.heap.size, 0, none⟩)]) ∧ w' = w.alloc (.cells #[.int .i64 many] 3) := by
  go_enter Tryz.func73, Tryz.ntmps73
  go_wp2_with fail
  go_ret
  exact ⟨rfl, rfl⟩
set_option maxHeartbeats 2000000 in
/-- What orders hands back hands over all orders of so many numbers. -/
theorem orders_seq (n many Bn : Nat) (w : World) (hm : many ≤ 64) (hB : Bn < w.heap.size) (hc : w.cell? ⟨Bn, 0, none⟩ = some (.int .i64 (many : Int))) :
    SeqRows Fence.wide n Tryz.prog 137 #[.pointer (some ⟨Bn, 0, none⟩)] (ordersN many) w := by
  intro l J Jx W hW hJ hY h0
  have hcell := (hW.cell (p := ⟨Bn, 0, none⟩) hB).trans hc
  have HI := Lib.hid (further_any l W.heap.size many (ordersN many) J Jx hJ hm (fun m pre v r A a b c => yield_depth rfl m (hY pre v r A a b c)) many (.slice none 0 0) [] [] W ⟨ints_nil W, fun g hg => by cases hg⟩ (by simp) (by rw [List.nil_append]; exact List.prefix_rfl) (Nat.le_refl _) h0)
  refine (callsIn_wide (n := n)).2 ?_
  clear hY hJ h0 hc
  show Calls Tryz.prog 137 #[.func (.yield l) #[] #[], .pointer (some ⟨Bn, 0, none⟩)] W _
  go_enter Tryz.func137, Tryz.ntmps137
  go_wp2_with (go_at_call 138; refine HI.out.mono ?_; rintro e B (⟨rfl, hj2, hk2⟩ | ⟨rfl, q, hq, hx2⟩))
  · go_end0
    exact ⟨⟨_, rfl⟩, .inl hj2⟩
  · go_end0
    exact ⟨⟨_, rfl⟩, .inr ⟨q, hq, hx2⟩⟩
end Go.Proofs.YtfancjmhdbaoeaaGreatDoor
