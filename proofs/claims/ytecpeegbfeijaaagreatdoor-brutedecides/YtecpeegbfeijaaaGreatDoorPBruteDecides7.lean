/- Walks and plain facts that the proof of the statement BruteDecides uses, joined: LeaH TblA AxiF PlaA AxiG PlaC AxiH OrdP LesA LesB. Conditions: each theorem's own. -/
import Derived.Laws.Tables
import Derived.Laws.CopyOwn
import Derived.Deep.QuietTactic
import Derived.BigQuiet
import Derived.Test.YtecpeegbfeijaaaGreatDoorPBruteDecides0
import Derived.Test.YtecpeegbfeijaaaGreatDoorPBruteDecides1
import Derived.Test.YtecpeegbfeijaaaGreatDoorPBruteDecides3
import Derived.Test.YtecpeegbfeijaaaGreatDoorPBruteDecides4
import Derived.Test.YtecpeegbfeijaaaGreatDoorPBruteDecides5
import Derived.Test.YtecpeegbfeijaaaGreatDoorPBruteDecides6
namespace Go.Proofs.YtecpeegbfeijaaaGreatDoor
set_option maxRecDepth 100000
open Go.RowKit

theorem nat_bit (x k : Nat) : (x &&& 2 ^ k = 0) ↔ x.testBit k = false := by
  constructor
  · intro h
    have h1 : (x &&& 2 ^ k).testBit k = false := by rw [h]; exact Nat.zero_testBit k
    rw [Nat.testBit_and, Nat.testBit_two_pow] at h1
    simpa using h1
  · intro h
    refine Nat.eq_of_testBit_eq fun i => ?_
    rw [Nat.testBit_and, Nat.testBit_two_pow, Nat.zero_testBit]
    by_cases e : k = i
    · subst e; rw [h]; rfl
    · simp [e]
theorem bit_zero (x k : Nat) (hx : x < 9223372036854775808) (hk : 2 ^ k < 9223372036854775808) : bits .and .i64 (x : Int) ((2 ^ k : Nat) : Int) = 0 ↔ x.testBit k = false := by
  rw [i64_and_nat x (2 ^ k) hx hk, ← nat_bit]
  omega
theorem bit_1 (x : Nat) (hx : x < 9223372036854775808) : bits .and .i64 (x : Int) 1 = 0 ↔ x.testBit 0 = false := bit_zero x 0 hx (by omega)
theorem bit_2 (x : Nat) (hx : x < 9223372036854775808) : bits .and .i64 (x : Int) 2 = 0 ↔ x.testBit 1 = false := bit_zero x 1 hx (by omega)
theorem bit_4 (x : Nat) (hx : x < 9223372036854775808) : bits .and .i64 (x : Int) 4 = 0 ↔ x.testBit 2 = false := bit_zero x 2 hx (by omega)
theorem bit_8 (x : Nat) (hx : x < 9223372036854775808) : bits .and .i64 (x : Int) 8 = 0 ↔ x.testBit 3 = false := bit_zero x 3 hx (by omega)
theorem bit_16 (x : Nat) (hx : x < 9223372036854775808) : bits .and .i64 (x : Int) 16 = 0 ↔ x.testBit 4 = false := bit_zero x 4 hx (by omega)
theorem bit_32 (x : Nat) (hx : x < 9223372036854775808) : bits .and .i64 (x : Int) 32 = 0 ↔ x.testBit 5 = false := bit_zero x 5 hx (by omega)
theorem trB_bit (x : Nat) (hx : x < 9223372036854775808) : trB (x : Int) = x.testBit 1 := by
  unfold trB
  have := bit_2 x hx
  cases h : x.testBit 1 with
  | true => exact decide_eq_true (fun e => by rw [this.1 e] at h; cases h)
  | false => exact decide_eq_false (fun e => e (this.2 h))
theorem pfB_bit (x : Nat) (hx : x < 9223372036854775808) : pfB (x : Int) = x.testBit 2 := by
  unfold pfB
  have := bit_4 x hx
  cases h : x.testBit 2 with
  | true => exact decide_eq_true (fun e => by rw [this.1 e] at h; cases h)
  | false => exact decide_eq_false (fun e => e (this.2 h))
theorem baseM_iff (h : List TxnV) (x : Nat) (hx : x < 9223372036854775808) (i j : Nat) : baseM h (x : Int) i j = true ↔ froM h i j = true ∨ (x.testBit 0 = true ∧ sesM h i j = true) ∨ (x.testBit 5 = true ∧ timM h i j = true) := by
  have h1 := bit_1 x hx
  have h5 := bit_32 x hx
  unfold baseM baseQ
  cases e0 : x.testBit 0 <;> cases e5 : x.testBit 5
  · rw [if_pos (h5.2 e5), if_pos (h1.2 e0)]; simp
  · rw [if_neg (fun e => by rw [h5.1 e] at e5; cases e5), if_pos (h1.2 e0), orR_iff]; simp
  · rw [if_pos (h5.2 e5), if_neg (fun e => by rw [h1.1 e] at e0; cases e0), orR_iff]; simp
  · rw [if_neg (fun e => by rw [h5.1 e] at e5; cases e5), if_neg (fun e => by rw [h1.1 e] at e0; cases e0), orR_iff, orR_iff]; simp [or_assoc]
theorem startM_iff (h : List TxnV) (x : Nat) (hx : x < 9223372036854775808) (A : Mat) (i j : Nat) : startM h (x : Int) A i j = true ↔ baseM h (x : Int) i j = true ∨ (x.testBit 3 = true ∧ rivM h A i j = true) ∨ (x.testBit 4 = true ∧ A i j = true) := by
  have h3 := bit_8 x hx
  have h4 := bit_16 x hx
  unfold startM startQ
  cases e3 : x.testBit 3 <;> cases e4 : x.testBit 4
  · rw [if_pos (h4.2 e4), if_pos (h3.2 e3)]; simp
  · rw [if_neg (fun e => by rw [h4.1 e] at e4; cases e4), if_pos (h3.2 e3), orR_iff]; simp
  · rw [if_pos (h4.2 e4), if_neg (fun e => by rw [h3.1 e] at e3; cases e3), orR_iff]; simp
  · rw [if_neg (fun e => by rw [h4.1 e] at e4; cases e4), if_neg (fun e => by rw [h3.1 e] at e3; cases e3), orR_iff, orR_iff]; simp [or_assoc]
theorem rivM_in (h : List TxnV) (A : Mat) (i j : Nat) (hr : rivM h A i j = true) : A i j = true := by
  unfold rivM at hr
  rw [Bool.and_eq_true] at hr
  exact hr.1
/-- What follows of what is asked, bit by bit. -/
theorem clN_bits : ∀ k : Fin 64, (clN k.val).testBit 0 = (k.val.testBit 0 || k.val.testBit 5) ∧ (clN k.val).testBit 1 = (k.val.testBit 1 || (k.val.testBit 2 || k.val.testBit 4)) ∧ (clN k.val).testBit 2 = (k.val.testBit 2 || k.val.testBit 4) ∧
    (clN k.val).testBit 3 = (k.val.testBit 3 || k.val.testBit 4) ∧ (clN k.val).testBit 4 = k.val.testBit 4 ∧ (clN k.val).testBit 5 = k.val.testBit 5 := by decide +kernel
theorem clI_bits (x : Nat) : (clI (x : Int)).testBit 0 = (x.testBit 0 || x.testBit 5) ∧ (clI (x : Int)).testBit 1 = (x.testBit 1 || (x.testBit 2 || x.testBit 4)) ∧ (clI (x : Int)).testBit 2 = (x.testBit 2 || x.testBit 4) ∧
    (clI (x : Int)).testBit 3 = (x.testBit 3 || x.testBit 4) ∧ (clI (x : Int)).testBit 4 = x.testBit 4 ∧ (clI (x : Int)).testBit 5 = x.testBit 5 := by
  have h := clN_bits ⟨x % 64, by omega⟩
  have e : ((x : Int) % 64).toNat = x % 64 := by omega
  have b : ∀ k, k < 6 → (x % 64).testBit k = x.testBit k := fun k hk => by
    rw [show (64 : Nat) = 2 ^ 6 from rfl, Nat.testBit_mod_two_pow, decide_eq_true hk, Bool.true_and]
  unfold clI
  rw [e]
  simp only [b 0 (by omega), b 1 (by omega), b 2 (by omega), b 3 (by omega), b 4 (by omega), b 5 (by omega)] at h
  exact h
theorem ahead_irr {L : List Int} (hn : L.Nodup) (a : Int) : ¬ Ahead L a a := by
  rw [ahead_at]
  rintro ⟨i, hi, h1, h2⟩
  obtain ⟨k, hk, h3⟩ := List.mem_iff_getElem.1 h2
  rw [List.length_drop] at hk
  rw [List.getElem_drop] at h3
  rw [List.getD_eq_getElem?_getD, List.getElem?_eq_getElem hi, Option.getD_some] at h1
  exact List.pairwise_iff_getElem.1 hn i (i + 1 + k) hi (by omega) (by omega) (h1.trans h3.symm)
theorem chain_trans {L : List Int} (hn : L.Nodup) {i m j : Nat} (h1 : chainR L i m = true) (h2 : chainR L m j = true) : chainR L i j = true := by
  rw [chainR_iff] at *
  exact h1.trans h2 (ahead_irr hn _)
theorem nodup_ofNat {L : List Nat} (h : L.Nodup) : (L.map Int.ofNat).Nodup := nodup_map Int.ofNat (fun _ _ e => Int.ofNat.inj e) h
theorem inM_iff (R S : Mat) : inM R S = true ↔ ∀ i j, i < 64 → j < 64 → R i j = true → S i j = true := by
  unfold inM inMTo
  rw [List.all_eq_true]
  constructor
  · intro h i j hi hj hr
    have h1 := (inB_iff (isSet_mkS _)).1 (h i (List.mem_range.2 hi)) j hj (by rw [testBit_mkS, hr, decide_eq_true hj]; rfl)
    rw [testBit_mkS, decide_eq_true hj] at h1
    simpa using h1
  · intro h i hi
    have hi := List.mem_range.1 hi
    rw [inB_iff (isSet_mkS _)]
    intro j hj hb
    rw [testBit_mkS, decide_eq_true hj] at hb ⊢
    simp only [Bool.true_and] at hb ⊢
    exact h i j hi hj hb
theorem hasR_nat (R : Mat) (i j : Nat) (hi : i < 64) (hj : j < 64) : hasR R (i : Int) (j : Int) = R i j := by
  unfold hasR mayB
  rw [Int.toNat_natCast, hasB_mkS _ _ hj, decide_eq_true (by omega), Bool.true_and]
/-- What least.Of answers. -/
def LeastIs (h : List TxnV) (x : Nat) (L : List Int) (R : Mat) : Prop := ∀ i j, i < 64 → j < 64 → (R i j = true ↔ Must (startM h (x : Int) (chainR L)) (chainR L) (trB x) (pfB x) i j)
/-- Who asks more sees as much. -/
theorem least_mono {h : List TxnV} {x y : Nat} {L : List Int} {R S : Mat} (hx : x < 9223372036854775808) (hy : y < 9223372036854775808) (hb : ∀ k, x.testBit k = true → y.testBit k = true) (hR : LeastIs h x L R) (hS : LeastIs h y L S) : inM R S = true := by
  rw [inM_iff]
  intro i j hi hj hr
  refine (hS i j hi hj).2 (must_mono ?_ ?_ ?_ ((hR i j hi hj).1 hr))
  · intro i j hs
    rw [startM_iff h x hx, baseM_iff h x hx] at hs
    rw [startM_iff h y hy, baseM_iff h y hy]
    rcases hs with (hs | ⟨h1, h2⟩ | ⟨h1, h2⟩) | ⟨h1, h2⟩ | ⟨h1, h2⟩
    · exact .inl (.inl hs)
    · exact .inl (.inr (.inl ⟨hb _ h1, h2⟩))
    · exact .inl (.inr (.inr ⟨hb _ h1, h2⟩))
    · exact .inr (.inl ⟨hb _ h1, h2⟩)
    · exact .inr (.inr ⟨hb _ h1, h2⟩)
  · rw [trB_bit x hx, trB_bit y hy]; exact hb 1
  · rw [pfB_bit x hx, pfB_bit y hy]; exact hb 2
/-- What follows of what is asked adds nothing, where all that is seen comes ahead. -/
theorem least_closed {h : List TxnV} {x : Nat} {L : List Int} {R S : Mat} (hc : checkI h = 0) (hn : L.Nodup) (hx : x < 9223372036854775808) (hR : LeastIs h x L R) (hS : LeastIs h (clI (x : Int)) L S) (hin : inM R (chainR L) = true) : rowsA R = rowsA S := by
  have hy : clI (x : Int) < 9223372036854775808 := by have := clI_lt (x : Int); omega
  obtain ⟨b0, b1, b2, b3, b4, b5⟩ := clI_bits x
  have hin := (inM_iff _ _).1 hin
  have hst := (inM_iff _ _).1 (ses_in_tim hc)
  refine rowsA_congr fun i j hi hj => ?_
  rw [Bool.eq_iff_iff, hR i j hi hj, hS i j hi hj]
  constructor
  · intro h1
    refine must_mono ?_ ?_ ?_ h1
    · intro i j hs
      rw [startM_iff h x hx, baseM_iff h x hx] at hs
      rw [startM_iff h _ hy, baseM_iff h _ hy, b0, b3, b4, b5]
      rcases hs with (hs | ⟨h1, h2⟩ | ⟨h1, h2⟩) | ⟨h1, h2⟩ | ⟨h1, h2⟩
      · exact .inl (.inl hs)
      · exact .inl (.inr (.inl ⟨by rw [h1]; rfl, h2⟩))
      · exact .inl (.inr (.inr ⟨h1, h2⟩))
      · exact .inr (.inl ⟨by rw [h1]; rfl, h2⟩)
      · exact .inr (.inr ⟨h1, h2⟩)
    · rw [trB_bit x hx, trB_bit _ hy, b1]; intro e; rw [e]; rfl
    · rw [pfB_bit x hx, pfB_bit _ hy, b2]; intro e; rw [e]; rfl
  · intro h1
    refine must_closed (tot := x.testBit 4) (fun i j hi hj hm => hin i j hi hj ((hR i j hi hj).2 hm)) (fun i m j _ _ _ h1 h2 => chain_trans hn h1 h2) ?_ ?_ ?_ ?_ h1 hi hj
    · intro ht i j _ _ ha
      rw [startM_iff h x hx]
      exact .inr (.inr ⟨ht, ha⟩)
    · intro i j hi hj hs
      rw [startM_iff h _ hy, baseM_iff h _ hy, b0, b3, b4, b5] at hs
      rw [startM_iff h x hx, baseM_iff h x hx]
      rcases hs with (hs | ⟨h1, h2⟩ | ⟨h1, h2⟩) | ⟨h1, h2⟩ | ⟨h1, h2⟩
      · exact .inl (.inl (.inl hs))
      · rcases (Bool.or_eq_true _ _).mp h1 with h1 | h1
        · exact .inl (.inl (.inr (.inl ⟨h1, h2⟩)))
        · exact .inl (.inl (.inr (.inr ⟨h1, hst i j hi hj h2⟩)))
      · exact .inl (.inl (.inr (.inr ⟨h1, h2⟩)))
      · rcases (Bool.or_eq_true _ _).mp h1 with h1 | h1
        · exact .inl (.inr (.inl ⟨h1, h2⟩))
        · exact .inr ⟨h1, rivM_in h _ i j h2⟩
      · exact .inr ⟨h1, h2⟩
    · rw [trB_bit x hx, pfB_bit x hx, trB_bit _ hy, b1]
      intro e
      rcases (Bool.or_eq_true _ _).mp e with e | e
      · exact .inl e
      · rcases (Bool.or_eq_true _ _).mp e with e | e
        · exact .inr (.inl e)
        · exact .inr (.inr e)
    · rw [pfB_bit x hx, pfB_bit _ hy, b2]
      intro e
      exact (Bool.or_eq_true _ _).mp e
end Go.Proofs.YtecpeegbfeijaaaGreatDoor

namespace Go.Proofs.YtecpeegbfeijaaaGreatDoor
set_option maxRecDepth 100000
open Go.RowKit

/-- The array of a row of the levels. -/
def rowB (r : Nat → Bool) : Array Value := ((List.range 12).map fun i => Value.bool (r i)).toArray
theorem rowB_size (r : Nat → Bool) : (rowB r).size = 12 := by simp [rowB]
theorem rowB_at (r : Nat → Bool) {i : Nat} (hi : i < 12) : (rowB r)[i]? = some (.bool (r i)) := by simp [rowB, hi]
def rSet (r : Nat → Bool) (a : Nat) (v : Bool) : Nat → Bool := fun i => if i = a then v else r i
theorem rowB_set (r : Nat → Bool) (a : Nat) (v : Bool) : (rowB r).setIfInBounds a (.bool v) = rowB (rSet r a v) := by
  apply Array.ext_getElem?
  intro i
  by_cases hi : i < 12
  · rw [rowB_at _ hi, Array.getElem?_setIfInBounds]
    unfold rSet
    by_cases e : a = i
    · subst e; simp [rowB_size, hi]
    · rw [if_neg e, rowB_at r hi, if_neg (fun h => e h.symm)]
  · rw [Array.getElem?_eq_none (by rw [Array.size_setIfInBounds, rowB_size]; omega), Array.getElem?_eq_none (by rw [rowB_size]; omega)]
/-- The block that holds a row. -/
def BRow (w : World) (g : Nat) (r : Nat → Bool) : Prop := w.heap[g]? = some (.cells (rowB r) 63 (0, 0))
theorem BRow.cell {w : World} {g : Nat} {r : Nat → Bool} (h : BRow w g r) {i : Nat} (hi : i < 12) : w.cell? ⟨g, i, none⟩ = some (.bool (r i)) := by rw [cell_of_row w g i _ _ _ h, rowB_at r hi]
theorem BRow.free {w : World} {g : Nat} {r : Nat → Bool} (h : BRow w g r) (i : Nat) : w.frozen? ⟨g, i, none⟩ = false := frozen_of_row w g i _ _ h
theorem BRow.lt {w : World} {g : Nat} {r : Nat → Bool} (h : BRow w g r) : g < w.heap.size := by
  by_cases h0 : g < w.heap.size
  · exact h0
  · unfold BRow at h; rw [Array.getElem?_eq_none (Nat.le_of_not_lt h0)] at h; cases h
theorem BRow.below {w w' : World} {g B : Nat} {r : Nat → Bool} (h : BRow w g r) (hb : Below B w w') (hB : g < B) : BRow w' g r := by unfold BRow at *; rw [hb.block g hB, h]
theorem BRow.store {w : World} {g : Nat} {r : Nat → Bool} (h : BRow w g r) (a : Nat) (v : Bool) : BRow (w.setCell ⟨g, a, none⟩ (.bool v)) g (rSet r a v) := by
  unfold BRow at *
  rw [heap_setCell_same w g a _ _ _ h, rowB_set]
theorem BRow.other {w : World} {g : Nat} {r : Nat → Bool} (h : BRow w g r) {k : Addr} (hk : g ≠ k.block) (v : Value) : BRow (w.setCell k v) g r := by unfold BRow at *; rw [heap_setCell_other w k g v hk, h]
theorem BRow.alloc {w : World} {g : Nat} {r : Nat → Bool} (h : BRow w g r) (o : Obj) : BRow (w.alloc o) g r := by
  have hl := BRow.lt h
  unfold BRow at *; rw [Below.heap_alloc w o g hl, h]
theorem BRow.made (w : World) (r : Nat → Bool) {cs : Array Value} {g : Nat} (hg : g = w.heap.size) (hc : cs = rowB r) : BRow (w.alloc (.cells cs 63)) g r := by subst hg hc; exact heap_alloc_new w _
theorem BRow.kept {w w' : World} {g : Nat} {r : Nat → Bool} {row : Option Nat} (h : BRow w g r) (hg : w.grownBy w' row) (hne : some g ≠ row) : BRow w' g r := by
  have hl := BRow.lt h
  have := hg.block g hl hne
  unfold BRow at *
  rw [this, h]
theorem BRow.setRow {w : World} {g : Nat} {r : Nat → Bool} (h : BRow w g r) (s : Nat → Bool) : BRow (w.setRow g (rowB s)) g s := setRow_heap w g _ _ _ _ h
end Go.Proofs.YtecpeegbfeijaaaGreatDoor

namespace Go.Proofs.YtecpeegbfeijaaaGreatDoor
set_option maxRecDepth 100000
open Go.RowKit

theorem bitA_pow : ∀ m : Fin 6, bitA m.val = 2 ^ m.val := by decide
theorem keptTo_bit (M : Nat → Mat) (V : Mat) (k : Nat) : ∀ m, m ≤ 6 → (keptTo M V m).testBit k = (decide (k < m) && inM (M k) V)
  | 0, _ => by unfold keptTo; simp
  | m + 1, h => by
    have ih := keptTo_bit M V k m (by omega)
    have e := bitA_pow ⟨m, by omega⟩
    simp only at e
    rw [keptTo_succ]
    by_cases hk : k = m
    · subst hk
      rw [decide_eq_false (Nat.lt_irrefl k), Bool.false_and] at ih
      rw [decide_eq_true (Nat.lt_succ_self k), Bool.true_and]
      cases hM : inM (M k) V with
      | true => rw [if_pos rfl, Nat.testBit_or, e, Nat.testBit_two_pow_self, Bool.or_true]
      | false => rw [if_neg (by decide)]; exact ih
    · have hd : decide (k < m + 1) = decide (k < m) := by rw [decide_eq_decide]; omega
      rw [hd]
      split
      · rw [Nat.testBit_or, e, Nat.testBit_two_pow_of_ne (by omega), Bool.or_false]; exact ih
      · exact ih
theorem kept_bit (h : List TxnV) (l : List Int) (V : Mat) {k : Nat} (hk : k < 6) : (keptN h l V).testBit k = inM (keptM h (chainR l) V k) V := by
  unfold keptN
  rw [keptTo_bit _ _ _ 6 (Nat.le_refl 6), decide_eq_true hk, Bool.true_and]
theorem lack_iff (a b : Nat) : lackN a b = 0 ↔ ∀ k, a.testBit k = true → b.testBit k = true := by
  unfold lackN
  constructor
  · intro e k hk
    have t := congrArg (fun x => Nat.testBit x k) e
    simp only [Nat.testBit_xor, Nat.testBit_and, Nat.zero_testBit, hk, Bool.true_and] at t
    cases hb : b.testBit k
    · rw [hb] at t; exact absurd t (by decide)
    · rfl
  · intro H
    apply Nat.eq_of_testBit_eq
    intro k
    rw [Nat.testBit_xor, Nat.testBit_and, Nat.zero_testBit]
    cases ha : a.testBit k
    · rfl
    · rw [H k ha]; rfl
theorem inM_trans {A B C : Mat} (h1 : inM A B = true) (h2 : inM B C = true) : inM A C = true := by
  rw [inM_iff] at *
  exact fun i j hi hj h => h2 i j hi hj (h1 i j hi hj h)
end Go.Proofs.YtecpeegbfeijaaaGreatDoor

namespace Go.Proofs.YtecpeegbfeijaaaGreatDoor
set_option maxRecDepth 100000
open Go.RowKit

/-- All that stand in a table by some numbers. -/
def joinL (F : Nat → Nat) (l : List Nat) : Nat := l.foldl (fun s k => s ||| F k) 0
def joinN (F : Nat → Nat) (s : Nat) : Nat := joinL F (lst s)
theorem joinF_bit (F : Nat → Nat) (j : Nat) : ∀ (l : List Nat) (s : Nat), (l.foldl (fun s k => s ||| F k) s).testBit j = (s.testBit j || l.any fun k => (F k).testBit j)
  | [], s => by simp
  | k :: l, s => by rw [List.foldl_cons, joinF_bit F j l, Nat.testBit_or, List.any_cons, Bool.or_assoc]
theorem joinL_bit (F : Nat → Nat) (l : List Nat) (j : Nat) : (joinL F l).testBit j = l.any fun k => (F k).testBit j := by
  unfold joinL; rw [joinF_bit]; simp
theorem joinL_set {F : Nat → Nat} {l : List Nat} (h : ∀ k ∈ l, IsSet (F k)) : IsSet (joinL F l) := by
  apply isSet_of_bits
  intro i hi
  rw [joinL_bit, List.any_eq_false]
  intro k hk
  rw [(h k hk).high hi]; simp
theorem joinN_set {F : Nat → Nat} {s : Nat} (h : ∀ k, k < 64 → IsSet (F k)) : IsSet (joinN F s) := joinL_set fun k hk => h k (mem_lst.1 hk).1
theorem joinN_iff {F : Nat → Nat} {s : Nat} {j : Nat} : (joinN F s).testBit j = true ↔ ∃ k, k < 64 ∧ s.testBit k = true ∧ (F k).testBit j = true := by
  unfold joinN
  rw [joinL_bit, List.any_eq_true]
  exact ⟨fun ⟨k, hk, hj⟩ => ⟨k, (mem_lst.1 hk).1, (mem_lst.1 hk).2, hj⟩, fun ⟨k, h1, h2, h3⟩ => ⟨k, mem_lst.2 ⟨h1, h2⟩, h3⟩⟩
theorem joinN_congr {F G : Nat → Nat} {s : Nat} (h : ∀ k, k < 64 → s.testBit k = true → F k = G k) : joinN F s = joinN G s := by
  apply Nat.eq_of_testBit_eq
  intro j
  rw [Bool.eq_iff_iff, joinN_iff, joinN_iff]
  exact ⟨fun ⟨k, h1, h2, h3⟩ => ⟨k, h1, h2, by rw [← h k h1 h2]; exact h3⟩, fun ⟨k, h1, h2, h3⟩ => ⟨k, h1, h2, by rw [h k h1 h2]; exact h3⟩⟩
/-- Those of a row, the last one first, as a set. -/
def plS : List Nat → Nat
  | [] => 0
  | i :: r => withS (plS r) (i : Int)
theorem plS_set : ∀ r, IsSet (plS r)
  | [] => by unfold plS IsSet; omega
  | i :: r => isSet_withS (plS_set r)
theorem plS_bit (j : Nat) : ∀ (r : List Nat), (∀ i ∈ r, i < 64) → (plS r).testBit j = decide (j ∈ r)
  | [], _ => by unfold plS; simp
  | i :: r, h => by
    have h1 : decide (0 ≤ (i : Int) ∧ (i : Int) < 64) = true := by have := h i (List.mem_cons_self ..); simp; omega
    unfold plS
    rw [testBit_withS, plS_bit j r (fun a ha => h a (List.mem_cons_of_mem _ ha)), h1, Int.toNat_natCast, Bool.true_and, Bool.eq_iff_iff]
    simp only [Bool.or_eq_true, decide_eq_true_eq, List.mem_cons]
    exact ⟨fun q => q.elim .inr (fun e => .inl e.symm), fun q => q.elim (fun e => .inr e.symm) .inl⟩
/-- Whom one would see, step by step: what it must see, all, who writes to the same key, whom those see, who is ahead of those. -/
def wld1 (b pl C : Nat) : Nat := if C.testBit 4 then b ||| pl else b
def wld2 (b pl rv C : Nat) : Nat := if C.testBit 3 then wld1 b pl C ||| (rv &&& pl) else wld1 b pl C
def wld3 (b pl rv C : Nat) (sF : Nat → Nat) : Nat := if C.testBit 1 then wld2 b pl rv C ||| joinN sF (wld2 b pl rv C) else wld2 b pl rv C
def wld4 (b pl rv C : Nat) (sF aF : Nat → Nat) : Nat := if C.testBit 2 then wld3 b pl rv C sF ||| joinN aF (wld3 b pl rv C sF) else wld3 b pl rv C sF
section
variable {b pl rv C : Nat} {sF aF : Nat → Nat}
theorem wld1_set (hb : IsSet b) (hp : IsSet pl) : IsSet (wld1 b pl C) := by unfold wld1; split; exact isSet_or hb hp; exact hb
theorem wld2_set (hb : IsSet b) (hp : IsSet pl) (hr : IsSet rv) : IsSet (wld2 b pl rv C) := by unfold wld2; split; exact isSet_or (wld1_set hb hp) (isSet_and hr); exact wld1_set hb hp
theorem wld3_set (hb : IsSet b) (hp : IsSet pl) (hr : IsSet rv) (hs : ∀ k, k < 64 → IsSet (sF k)) : IsSet (wld3 b pl rv C sF) := by unfold wld3; split; exact isSet_or (wld2_set hb hp hr) (joinN_set hs); exact wld2_set hb hp hr
theorem wld4_set (hb : IsSet b) (hp : IsSet pl) (hr : IsSet rv) (hs : ∀ k, k < 64 → IsSet (sF k)) (ha : ∀ k, k < 64 → IsSet (aF k)) : IsSet (wld4 b pl rv C sF aF) := by unfold wld4; split; exact isSet_or (wld3_set hb hp hr hs) (joinN_set ha); exact wld3_set hb hp hr hs
/-- Whom one would see is placed, as far as whom it must see is. -/
theorem wld1_in (hb : ∀ j, b.testBit j = true → pl.testBit j = true) {j : Nat} (h : (wld1 b pl C).testBit j = true) : pl.testBit j = true := by
  unfold wld1 at h
  split at h
  · rw [Nat.testBit_or, Bool.or_eq_true] at h; exact h.elim (hb j) id
  · exact hb j h
theorem wld2_in (hb : ∀ j, b.testBit j = true → pl.testBit j = true) {j : Nat} (h : (wld2 b pl rv C).testBit j = true) : pl.testBit j = true := by
  unfold wld2 at h
  split at h
  · rw [Nat.testBit_or, Bool.or_eq_true, Nat.testBit_and, Bool.and_eq_true] at h; exact h.elim (wld1_in hb) And.right
  · exact wld1_in hb h
theorem wld3_in (hb : ∀ j, b.testBit j = true → pl.testBit j = true) (hs : ∀ k j, pl.testBit k = true → (sF k).testBit j = true → pl.testBit j = true) {j : Nat} (h : (wld3 b pl rv C sF).testBit j = true) : pl.testBit j = true := by
  unfold wld3 at h
  split at h
  · rw [Nat.testBit_or, Bool.or_eq_true, joinN_iff] at h
    rcases h with h | ⟨k, _, h1, h2⟩
    · exact wld2_in hb h
    · exact hs k j (wld2_in hb h1) h2
  · exact wld2_in hb h
theorem wld4_in (hb : ∀ j, b.testBit j = true → pl.testBit j = true) (hs : ∀ k j, pl.testBit k = true → (sF k).testBit j = true → pl.testBit j = true) (ha : ∀ k j, pl.testBit k = true → (aF k).testBit j = true → pl.testBit j = true) {j : Nat} (h : (wld4 b pl rv C sF aF).testBit j = true) : pl.testBit j = true := by
  unfold wld4 at h
  split at h
  · rw [Nat.testBit_or, Bool.or_eq_true, joinN_iff] at h
    rcases h with h | ⟨k, _, h1, h2⟩
    · exact wld3_in hb hs h
    · exact ha k j (wld3_in hb hs h1) h2
  · exact wld3_in hb hs h
theorem wld3_congr {sG : Nat → Nat} (hb : ∀ j, b.testBit j = true → pl.testBit j = true) (h : ∀ k, k < 64 → pl.testBit k = true → sF k = sG k) : wld3 b pl rv C sF = wld3 b pl rv C sG := by
  unfold wld3
  rw [joinN_congr fun k hk hb2 => h k hk (wld2_in hb hb2)]
theorem wld4_congr {sG aG : Nat → Nat} (hb : ∀ j, b.testBit j = true → pl.testBit j = true) (h : ∀ k, k < 64 → pl.testBit k = true → sF k = sG k ∧ aF k = aG k) (hs : ∀ k j, pl.testBit k = true → (sF k).testBit j = true → pl.testBit j = true) : wld4 b pl rv C sF aF = wld4 b pl rv C sG aG := by
  have e : wld3 b pl rv C sF = wld3 b pl rv C sG := wld3_congr hb fun k hk hp => (h k hk hp).1
  unfold wld4
  rw [← e, joinN_congr (F := aF) (G := aG) fun k hk hb2 => (h k hk (wld3_in hb hs hb2)).2]
end
/-- What one must see, whatever the order is. -/
def baseN (h : List TxnV) (C i : Nat) : Nat := seeTo (baseM h (C : Int)) (i : Int) 64
theorem baseN_set (h : List TxnV) (C i : Nat) : IsSet (baseN h C i) := seeTo_set _ _ _
/-- Of each of a row, the last one first: who is ahead of it, and whom it sees. -/
def aheadL : List Nat → Nat → Nat
  | [], _ => 0
  | i :: r, k => if k = i then plS r else aheadL r k
def plSee (h : List TxnV) (C : Nat) : List Nat → Nat → Nat
  | [], _ => 0
  | i :: r, k => if k = i then wld4 (baseN h C i) (plS r) (rivN h i) C (plSee h C r) (aheadL r) else plSee h C r k
def nextN (h : List TxnV) (C : Nat) (r : List Nat) (i : Nat) : Nat := wld4 (baseN h C i) (plS r) (rivN h i) C (plSee h C r) (aheadL r)
theorem aheadL_set : ∀ (r : List Nat) (k : Nat), IsSet (aheadL r k)
  | [], _ => by unfold aheadL IsSet; omega
  | i :: r, k => by
    unfold aheadL
    split
    · exact plS_set r
    · exact aheadL_set r k
theorem plSee_set (h : List TxnV) (C : Nat) : ∀ (r : List Nat) (k : Nat), IsSet (plSee h C r k)
  | [], _ => by unfold plSee IsSet; omega
  | i :: r, k => by
    unfold plSee
    split
    · exact wld4_set (baseN_set h C i) (plS_set r) (rivN_set h i) (fun k _ => plSee_set h C r k) (fun k _ => aheadL_set r k)
    · exact plSee_set h C r k
/-- Would one read of a key what the last one wrote that it sees? -/
def readW (h : List TxnV) (aF : Nat → Nat) (seen : Nat) (r : Int × Int) : Nat := if 0 ≤ r.2 then lackN (seen &&& wrtN h r.1) (withS (aF r.2.toNat) r.2) else seen &&& wrtN h r.1
def readP (h : List TxnV) (aF : Nat → Nat) (seen : Nat) (r : Int × Int) : Bool := decide (readW h aF seen r = 0)
def readsP (h : List TxnV) (aF : Nat → Nat) (seen i : Nat) : Bool := (readsOf h i).all (readP h aF seen)
/-- May one come next? -/
def tryP (h : List TxnV) (C : Nat) (r : List Nat) (i : Nat) : Bool := decide (i < h.length) && (!decide (i ∈ r) && (inB (baseN h C i) (plS r) && readsP h (aheadL r) (nextN h C r i) i))
/-- The cells of the block, one by one. -/
def plF (B C : Nat) (vb vr : Value) (pl : Nat) (aF sF : Nat → Nat) (i : Nat) : Value :=
  if i = 0 then .pointer (some ⟨B, 0, none⟩) else if i = 1 then .int .i64 (C : Int) else if i = 2 then vb else if i = 3 then vr else if i = 4 then .int .u64 (pl : Int) else
  if i < 69 then .int .u64 ((aF (i - 5) : Nat) : Int) else .int .u64 ((sF (i - 69) : Nat) : Int)
/-- The block that holds a state. -/
def PlAt (w : World) (S B C : Nat) (vb vr : Value) (pl : Nat) (aF sF : Nat → Nat) : Prop := ∀ i, i < 133 → w.cell? ⟨S, i, none⟩ = some (plF B C vb vr pl aF sF i) ∧ w.frozen? ⟨S, i, none⟩ = false
section
variable {w : World} {S B C : Nat} {vb vr : Value} {pl : Nat} {aF sF : Nat → Nat}
theorem PlAt.lt (h : PlAt w S B C vb vr pl aF sF) : S < w.heap.size := block_lt (h 0 (by omega)).1
theorem PlAt.below {w' : World} {B' : Nat} (h : PlAt w S B C vb vr pl aF sF) (hb : Below B' w w') (hB : S < B') : PlAt w' S B C vb vr pl aF sF := fun i hi => by
  rw [hb.cell (p := ⟨S, i, none⟩) hB, hb.frozen (p := ⟨S, i, none⟩) hB]; exact h i hi
theorem PlAt.grown {w' : World} {row : Option Nat} (h : PlAt w S B C vb vr pl aF sF) (hg : w.grownBy w' row) (hne : some S ≠ row) : PlAt w' S B C vb vr pl aF sF := fun i hi => by
  obtain ⟨h1, h2⟩ := h i hi
  have hb := hg.block S h.lt hne
  have e1 : w'.cell? ⟨S, i, none⟩ = w.cell? ⟨S, i, none⟩ := by simp only [World.cell?]; rw [hb]
  have e2 : w'.frozen? ⟨S, i, none⟩ = w.frozen? ⟨S, i, none⟩ := by simp only [World.frozen?]; rw [hb]
  rw [e1, e2]; exact ⟨h1, h2⟩
theorem PlAt.cR (h : PlAt w S B C vb vr pl aF sF) : w.cell? ⟨S, 3, none⟩ = some vr := (h 3 (by omega)).1
theorem PlAt.cS (h : PlAt w S B C vb vr pl aF sF) {k : Nat} (hk : k < 64) : w.cell? ⟨S, 69 + k, none⟩ = some (.int .u64 ((sF k : Nat) : Int)) := by
  rw [(h (69 + k) (by omega)).1]; unfold plF
  rw [if_neg (by omega), if_neg (by omega), if_neg (by omega), if_neg (by omega), if_neg (by omega), if_neg (by omega), Nat.add_sub_cancel_left]
theorem PlAt.free (h : PlAt w S B C vb vr pl aF sF) {i : Nat} (hi : i < 133) : w.frozen? ⟨S, i, none⟩ = false := (h i hi).2
theorem PlAt.put (h : PlAt w S B C vb vr pl aF sF) (k : Nat) (v : Value) {vb' vr' : Value} {pl' : Nat} {aF' sF' : Nat → Nat} (h1 : plF B C vb' vr' pl' aF' sF' k = v)
    (h2 : ∀ i, i < 133 → i ≠ k → plF B C vb' vr' pl' aF' sF' i = plF B C vb vr pl aF sF i) : PlAt (w.setCell ⟨S, k, none⟩ v) S B C vb' vr' pl' aF' sF' := fun i hi => by
  refine ⟨?_, by rw [World.frozen?_setCell]; exact (h i hi).2⟩
  by_cases e : i = k
  · subst e
    rw [World.cell?_setCell_same _ _ _ (h i hi).1, h1]
  · have hne : (⟨S, k, none⟩ : Addr) ≠ ⟨S, i, none⟩ := by
      intro q
      injection q with _ q2
      exact e q2.symm
    rw [World.cell?_setCell_other _ _ _ _ hne, h2 i hi e]
    exact (h i hi).1
theorem PlAt.setR (h : PlAt w S B C vb vr pl aF sF) (v : Value) : PlAt (w.setCell ⟨S, 3, none⟩ v) S B C vb v pl aF sF := h.put 3 v rfl (fun i _ e => by unfold plF; simp [e])
/-- A table with one number anew. -/
def updN (F : Nat → Nat) (i s : Nat) : Nat → Nat := fun k => if k = i then s else F k
theorem PlAt.setS (h : PlAt w S B C vb vr pl aF sF) {k : Nat} (hk : k < 64) (s : Nat) : PlAt (w.setCell ⟨S, 69 + k, none⟩ (.int .u64 (s : Int))) S B C vb vr pl aF (updN sF k s) := h.put (69 + k) _
  (by unfold plF updN; rw [if_neg (by omega), if_neg (by omega), if_neg (by omega), if_neg (by omega), if_neg (by omega), if_neg (by omega), if_pos (by omega)])
  (fun i _ e => by
    unfold plF updN
    by_cases h5 : i < 69
    · by_cases h6 : i < 5
      · have : i = 0 ∨ i = 1 ∨ i = 2 ∨ i = 3 ∨ i = 4 := by omega
        rcases this with rfl | rfl | rfl | rfl | rfl <;> rfl
      · simp only [h5, if_true]
    · have : ¬ i - 69 = k := by omega
      simp only [this, if_false])
end
/-- A state: of a history, what is asked, and those that are placed, the last one first. What lay there ahead of it is W. -/
structure PlIs (W : World) (S B b : Nat) (h : List TxnV) (C : Nat) (r : List Nat) (vb vr : Value) (aF sF : Nat → Nat) (w : World) : Prop where
  o : OrdIs W B b h
  t : Tab W
  bel : Below W.heap.size W w
  low : W.heap.size ≤ S
  a : PlAt w S B C vb vr (plS r) aF sF
  ba : w.ownsRow (S + 1) 95 1 vb h.length ((List.range h.length).map fun i => .int .u64 ((baseN h C i : Nat) : Int))
  rw : w.ownsRow (S + 1) 3 1 vr r.length (r.reverse.map fun i : Nat => .int .i64 (i : Int))
  ne : ∀ g, vb.ownBlock = some g → vr.ownBlock ≠ some g
  set : ∀ k, k < 64 → IsSet (aF k) ∧ IsSet (sF k)
  eq : ∀ k ∈ r, aF k = aheadL r k ∧ sF k = plSee h C r k
  nd : r.Nodup
  lt : ∀ k ∈ r, k < h.length
  base : ∀ k ∈ r, ∀ j, (baseN h C k).testBit j = true → (aheadL r k).testBit j = true
/-- A step that changes a state alone, and lays new blocks. -/
structure PlStep (S : Nat) (vr vr' : Value) (w w' : World) : Prop where
  os : w'.os = w.os
  tape : w'.tape = w.tape
  output : w'.output = w.output
  size : w.heap.size ≤ w'.heap.size
  block : ∀ k, k < w.heap.size → k ≠ S → vr.ownBlock ≠ some k → w'.heap[k]? = w.heap[k]?
  own : ∀ g, vr'.ownBlock = some g → vr.ownBlock = some g ∨ w.heap.size ≤ g
theorem PlStep.of_below {S : Nat} {vr : Value} {w w' : World} (hb : Below w.heap.size w w') : PlStep S vr vr w w' := ⟨hb.os, hb.tape, hb.output, hb.size, fun k hk _ _ => hb.block k hk, fun _ hg => .inl hg⟩
theorem PlStep.refl (S : Nat) (vr : Value) (w : World) : PlStep S vr vr w w := .of_below (Below.refl _ _)
theorem PlStep.trans {S : Nat} {v1 v2 v3 : Value} {w1 w2 w3 : World} (h : PlStep S v1 v2 w1 w2) (k : PlStep S v2 v3 w2 w3) : PlStep S v1 v3 w1 w3 := by
  refine ⟨k.os.trans h.os, k.tape.trans h.tape, k.output.trans h.output, Nat.le_trans h.size k.size, fun j hj hs hv => ?_, fun g hg => ?_⟩
  · refine (k.block j (Nat.lt_of_lt_of_le hj h.size) hs (fun e => ?_)).trans (h.block j hj hs hv)
    rcases h.own j e with q | q
    · exact hv q
    · omega
  · rcases k.own g hg with q | q
    · exact h.own g q
    · exact .inr (Nat.le_trans h.size q)
/-- A slice apart from a state. -/
def RowX (S : Nat) (vr : Value) (w : World) (v : Value) (n size : Nat) (cs : List Value) : Prop := Row w v n size cs ∧ (0 < n → 0 < size → ∀ g, v.ownBlock = some g → g ≠ S ∧ vr.ownBlock ≠ some g)
theorem RowX.step {S : Nat} {v1 v2 : Value} {w w' : World} {v : Value} {n size : Nat} {cs : List Value} (h : RowX S v1 w v n size cs) (hs : 0 < size) (k : PlStep S v1 v2 w w') : RowX S v2 w' v n size cs := by
  obtain ⟨⟨hl, ao, cap, rfl, hm, hno, hc⟩, hx⟩ := h
  refine ⟨⟨hl, ao, cap, rfl, hm, hno, fun hn => ?_⟩, fun hn h0 g hg => ?_⟩
  · obtain ⟨b, off, rfl, hcell⟩ := hc hn
    obtain ⟨x1, x2⟩ := hx hn hs b rfl
    refine ⟨b, off, rfl, fun i hi => ?_⟩
    have h1 := hcell i hi
    have h2 : cs[i]? = some cs[i] := List.getElem?_eq_getElem (by omega)
    have hlt := block_lt (h1.trans h2)
    rw [← h1]
    show w'.cell? _ = w.cell? _
    simp only [World.cell?]
    rw [k.block b hlt x1 x2]
  · obtain ⟨b, off, rfl, hcell⟩ := hc hn
    obtain rfl : b = g := by injection hg
    obtain ⟨x1, x2⟩ := hx hn hs b rfl
    have hpos : 0 < n * size := Nat.mul_pos hn hs
    have h1 := hcell 0 hpos
    have h2 : cs[0]? = some cs[0] := List.getElem?_eq_getElem (by omega)
    have hlt := block_lt (h1.trans h2)
    refine ⟨x1, fun e => ?_⟩
    rcases k.own b e with q | q
    · exact x2 q
    · have : b < w.heap.size := hlt
      omega
section
variable {W : World} {S B b : Nat} {h : List TxnV} {C : Nat} {r : List Nat} {vb vr : Value} {aF sF : Nat → Nat} {w w' : World}
theorem PlIs.below (p : PlIs W S B b h C r vb vr aF sF w) (hb : Below w.heap.size w w') : PlIs W S B b h C r vb vr aF sF w' :=
  ⟨p.o, p.t, p.bel.trans (hb.mono p.bel.size), p.low, p.a.below hb p.a.lt, owns_below p.ba hb, owns_below p.rw hb, p.ne, p.set, p.eq, p.nd, p.lt, p.base⟩
theorem PlIs.ord (p : PlIs W S B b h C r vb vr aF sF w) : OrdIs w B b h := p.o.below p.bel
/-- All that are ahead of one, and all that it sees, are placed. -/
theorem ahead_in {r : List Nat} (hlt : ∀ k ∈ r, k < 64) : ∀ {k j : Nat}, (aheadL r k).testBit j = true → (plS r).testBit j = true := by
  induction r with
  | nil => intro k j hj; unfold aheadL at hj; simp at hj
  | cons i r ih =>
    intro k j hj
    have hlt' : ∀ a ∈ r, a < 64 := fun a ha => hlt a (List.mem_cons_of_mem _ ha)
    have : (plS r).testBit j = true := by
      unfold aheadL at hj
      split at hj
      · exact hj
      · exact ih hlt' hj
    rw [plS_bit j _ hlt', decide_eq_true_eq] at this
    rw [plS_bit j _ hlt, decide_eq_true_eq]
    exact List.mem_cons_of_mem _ this
theorem base_tail {i : Nat} (hi : i ∉ r) (hb : ∀ k ∈ i :: r, ∀ j, (baseN h C k).testBit j = true → (aheadL (i :: r) k).testBit j = true) : (∀ k ∈ r, ∀ j, (baseN h C k).testBit j = true → (aheadL r k).testBit j = true) ∧ ∀ j, (baseN h C i).testBit j = true → (plS r).testBit j = true := by
  constructor
  · intro k hk j hj
    have := hb k (List.mem_cons_of_mem _ hk) j hj
    unfold aheadL at this
    rwa [if_neg (fun e => hi (by rw [← e]; exact hk))] at this
  · intro j hj
    have := hb i (List.mem_cons_self ..) j hj
    unfold aheadL at this
    rwa [if_pos rfl] at this
/-- Whom one sees is ahead of it. -/
theorem sees_ahead {r : List Nat} (hlt : ∀ k ∈ r, k < 64) (hnd : r.Nodup) (hb : ∀ k ∈ r, ∀ j, (baseN h C k).testBit j = true → (aheadL r k).testBit j = true) : ∀ {k j : Nat}, (plSee h C r k).testBit j = true → (aheadL r k).testBit j = true := by
  induction r with
  | nil => intro k j hj; unfold plSee at hj; simp at hj
  | cons i r ih =>
    intro k j hj
    have hlt' : ∀ a ∈ r, a < 64 := fun a ha => hlt a (List.mem_cons_of_mem _ ha)
    obtain ⟨hi, hnd'⟩ := List.nodup_cons.1 hnd
    obtain ⟨hb', hbi⟩ := base_tail hi hb
    unfold plSee at hj
    unfold aheadL
    split at hj
    · rename_i e
      rw [if_pos e]
      exact wld4_in hbi (fun k j _ hj => ahead_in hlt' (ih hlt' hnd' hb' hj)) (fun k j _ hj => ahead_in hlt' hj) hj
    · rename_i e
      rw [if_neg e]
      exact ih hlt' hnd' hb' hj
end
end Go.Proofs.YtecpeegbfeijaaaGreatDoor

namespace Go.Proofs.YtecpeegbfeijaaaGreatDoor
set_option maxRecDepth 100000
open Go.RowKit

theorem hasB_nat {s : Nat} {n : Nat} (hn : n < 64) : hasB s (n : Int) = s.testBit n := by
  unfold hasB
  rw [decide_eq_true (by omega), Bool.true_and, Int.toNat_natCast]
theorem lastI_snoc (l : List Int) (a : Int) (s : Nat) : lastI (l ++ [a]) s = if hasB s a then a else lastI l s := by
  unfold lastI lastTo
  rw [List.take_length, List.take_length, List.foldl_append]
  rfl
theorem seen_bit {V : Mat} {h : List TxnV} {y : Int} {i n : Nat} (hi : i < 64) (hn : n < 64) : (seeTo V (i : Int) 64 &&& wrtN h y).testBit n = (V n i && (wrtN h y).testBit n) := by
  rw [Nat.testBit_and, seeTo_bit V (i : Int) n 64 (Nat.le_refl 64), decide_eq_true hn, Bool.true_and, hasR_nat V n i hn hi]
theorem least_base {h : List TxnV} {x : Nat} {l : List Int} {R : Mat} (hx : x < 9223372036854775808) (hR : LeastIs h x l R) {i j : Nat} (hi : i < 64) (hj : j < 64)
    (hb : froM h i j = true ∨ (x.testBit 0 = true ∧ sesM h i j = true) ∨ (x.testBit 5 = true ∧ timM h i j = true) ∨ (x.testBit 3 = true ∧ rivM h (chainR l) i j = true) ∨ (x.testBit 4 = true ∧ chainR l i j = true)) : R i j = true := by
  refine (hR i j hi hj).2 (.base ((startM_iff h x hx _ i j).2 ?_))
  rw [baseM_iff h x hx]
  rcases hb with hb | hb | hb | hb | hb
  · exact .inl (.inl hb)
  · exact .inl (.inr (.inl hb))
  · exact .inl (.inr (.inr hb))
  · exact .inr (.inl hb)
  · exact .inr (.inr hb)
end Go.Proofs.YtecpeegbfeijaaaGreatDoor

namespace Go.Proofs.YtecpeegbfeijaaaGreatDoor
set_option maxRecDepth 100000
open Go.RowKit

section
variable {b pl rv C : Nat} {sF aF : Nat → Nat}
theorem wld1_base {j : Nat} (h : b.testBit j = true) : (wld1 b pl C).testBit j = true := by
  unfold wld1; split
  · rw [Nat.testBit_or, h]; rfl
  · exact h
theorem wld2_up {j : Nat} (h : (wld1 b pl C).testBit j = true) : (wld2 b pl rv C).testBit j = true := by
  unfold wld2; split
  · rw [Nat.testBit_or, h]; rfl
  · exact h
theorem wld3_up {j : Nat} (h : (wld2 b pl rv C).testBit j = true) : (wld3 b pl rv C sF).testBit j = true := by
  unfold wld3; split
  · rw [Nat.testBit_or, h]; rfl
  · exact h
theorem wld4_up {j : Nat} (h : (wld3 b pl rv C sF).testBit j = true) : (wld4 b pl rv C sF aF).testBit j = true := by
  unfold wld4; split
  · rw [Nat.testBit_or, h]; rfl
  · exact h
theorem wld4_base {j : Nat} (h : b.testBit j = true) : (wld4 b pl rv C sF aF).testBit j = true := wld4_up (wld3_up (wld2_up (wld1_base h)))
theorem wld4_all {j : Nat} (hc : C.testBit 4 = true) (h : pl.testBit j = true) : (wld4 b pl rv C sF aF).testBit j = true := by
  refine wld4_up (wld3_up (wld2_up ?_))
  unfold wld1
  rw [if_pos hc, Nat.testBit_or, h, Bool.or_true]
theorem wld4_riv {j : Nat} (hc : C.testBit 3 = true) (h : rv.testBit j = true) (h2 : pl.testBit j = true) : (wld4 b pl rv C sF aF).testBit j = true := by
  refine wld4_up (wld3_up ?_)
  unfold wld2
  rw [if_pos hc, Nat.testBit_or, Nat.testBit_and, h, h2, Bool.and_true, Bool.or_true]
theorem wld4_least {Y : Nat → Prop} (hb : ∀ j, b.testBit j = true → Y j) (h4 : C.testBit 4 = true → ∀ j, pl.testBit j = true → Y j) (h3 : C.testBit 3 = true → ∀ j, rv.testBit j = true → pl.testBit j = true → Y j)
    (h1 : C.testBit 1 = true → ∀ m j, m < 64 → Y m → (sF m).testBit j = true → Y j) (h2 : C.testBit 2 = true → ∀ m j, m < 64 → Y m → (aF m).testBit j = true → Y j) {j : Nat} (h : (wld4 b pl rv C sF aF).testBit j = true) : Y j := by
  have y1 : ∀ j, (wld1 b pl C).testBit j = true → Y j := by
    intro j hj
    unfold wld1 at hj
    split at hj
    · rename_i hc; rw [Nat.testBit_or, Bool.or_eq_true] at hj; exact hj.elim (hb j) (h4 hc j)
    · exact hb j hj
  have y2 : ∀ j, (wld2 b pl rv C).testBit j = true → Y j := by
    intro j hj
    unfold wld2 at hj
    split at hj
    · rename_i hc; rw [Nat.testBit_or, Bool.or_eq_true, Nat.testBit_and, Bool.and_eq_true] at hj; exact hj.elim (y1 j) (fun q => h3 hc j q.1 q.2)
    · exact y1 j hj
  have y3 : ∀ j, (wld3 b pl rv C sF).testBit j = true → Y j := by
    intro j hj
    unfold wld3 at hj
    split at hj
    · rename_i hc; rw [Nat.testBit_or, Bool.or_eq_true, joinN_iff] at hj
      rcases hj with hj | ⟨k, hk, q1, q2⟩
      · exact y2 j hj
      · exact h1 hc k j hk (y2 k q1) q2
    · exact y2 j hj
  unfold wld4 at h
  split at h
  · rename_i hc; rw [Nat.testBit_or, Bool.or_eq_true, joinN_iff] at h
    rcases h with hj | ⟨k, hk, q1, q2⟩
    · exact y3 j hj
    · exact h2 hc k j hk (y3 k q1) q2
  · exact y3 j h
/-- One round is enough: whom one would see is closed. -/
theorem wld4_closed (_ : ∀ k j, (aF k).testBit j = true → j < 64) (h64 : ∀ m, (wld4 b pl rv C sF aF).testBit m = true → m < 64) (hsa : ∀ k j, (sF k).testBit j = true → (aF k).testBit j = true)
    (hs : C.testBit 1 = true → ∀ k m j, (sF k).testBit m = true → (sF m).testBit j = true → (sF k).testBit j = true)
    (ha : ∀ k m j, (aF k).testBit m = true → (aF m).testBit j = true → (aF k).testBit j = true) :
    (C.testBit 1 = true → ∀ m j, (wld4 b pl rv C sF aF).testBit m = true → (sF m).testBit j = true → (wld4 b pl rv C sF aF).testBit j = true) ∧
    (C.testBit 2 = true → ∀ m j, (wld4 b pl rv C sF aF).testBit m = true → (aF m).testBit j = true → (wld4 b pl rv C sF aF).testBit j = true) := by
  have P2 : C.testBit 2 = true → ∀ m j, (wld4 b pl rv C sF aF).testBit m = true → (aF m).testBit j = true → (wld4 b pl rv C sF aF).testBit j = true := by
    intro hc m j hm hj
    have hm64 := h64 m hm
    unfold wld4 at hm ⊢
    rw [if_pos hc, Nat.testBit_or, Bool.or_eq_true, joinN_iff] at hm ⊢
    rcases hm with hm | ⟨k, hk, q1, q2⟩
    · exact .inr ⟨m, hm64, hm, hj⟩
    · exact .inr ⟨k, hk, q1, ha k m j q2 hj⟩
  refine ⟨fun hc m j hm hj => ?_, P2⟩
  by_cases c2 : C.testBit 2 = true
  · exact P2 c2 m j hm (hsa m j hj)
  · have e : wld4 b pl rv C sF aF = wld3 b pl rv C sF := by unfold wld4; rw [if_neg c2]
    have hm64 := h64 m hm
    rw [e] at hm ⊢
    unfold wld3 at hm ⊢
    rw [if_pos hc, Nat.testBit_or, Bool.or_eq_true, joinN_iff] at hm ⊢
    rcases hm with hm | ⟨k, hk, q1, q2⟩
    · exact .inr ⟨m, hm64, hm, hj⟩
    · exact .inr ⟨k, hk, q1, hs hc k m j q2 hj⟩
end
/-- A row, the last one first, of those each of which must see none but those ahead of it. -/
structure RowG (h : List TxnV) (C : Nat) (r : List Nat) : Prop where
  nd : r.Nodup
  lt : ∀ k ∈ r, k < 64
  base : ∀ k ∈ r, ∀ j, (baseN h C k).testBit j = true → (aheadL r k).testBit j = true
section
variable {h : List TxnV} {C : Nat}
theorem RowG.tail {i : Nat} {r : List Nat} (g : RowG h C (i :: r)) : RowG h C r :=
  ⟨(List.nodup_cons.1 g.nd).2, fun k hk => g.lt k (List.mem_cons_of_mem _ hk), (base_tail (List.nodup_cons.1 g.nd).1 g.base).1⟩
theorem RowG.head {i : Nat} {r : List Nat} (g : RowG h C (i :: r)) : ∀ j, (baseN h C i).testBit j = true → (plS r).testBit j = true := (base_tail (List.nodup_cons.1 g.nd).1 g.base).2
theorem aheadL_tail {i k : Nat} {r : List Nat} (hne : k ≠ i) : aheadL (i :: r) k = aheadL r k := by rw [aheadL, if_neg hne]
theorem plSee_tail {i k : Nat} {r : List Nat} (hne : k ≠ i) : plSee h C (i :: r) k = plSee h C r k := by rw [plSee, if_neg hne]
theorem plS_mem {r : List Nat} (hlt : ∀ k ∈ r, k < 64) {j : Nat} (hj : (plS r).testBit j = true) : j ∈ r := by rw [plS_bit j r hlt, decide_eq_true_eq] at hj; exact hj
theorem aheadL_mem {r : List Nat} (hlt : ∀ k ∈ r, k < 64) {k j : Nat} (hj : (aheadL r k).testBit j = true) : j ∈ r := plS_mem hlt (ahead_in hlt hj)
theorem aheadL_out : ∀ {r : List Nat} {k : Nat}, k ∉ r → aheadL r k = 0
  | [], _, _ => rfl
  | i :: r, k, hk => by
    rw [aheadL_tail (fun e => hk (by rw [e]; exact List.mem_cons_self ..)), aheadL_out (fun q => hk (List.mem_cons_of_mem _ q))]
theorem aheadL_trans : ∀ {r : List Nat}, r.Nodup → (∀ k ∈ r, k < 64) → ∀ {k m j : Nat}, (aheadL r k).testBit m = true → (aheadL r m).testBit j = true → (aheadL r k).testBit j = true
  | [], _, _, k, m, j, h1, _ => by unfold aheadL at h1; simp at h1
  | i :: r, hnd, hlt, k, m, j, h1, h2 => by
    obtain ⟨hi, hnd'⟩ := List.nodup_cons.1 hnd
    have hlt' : ∀ a ∈ r, a < 64 := fun a ha => hlt a (List.mem_cons_of_mem _ ha)
    by_cases e : k = i
    · subst e
      rw [aheadL, if_pos rfl] at h1 ⊢
      have hm := plS_mem hlt' h1
      rw [aheadL_tail (fun e => hi (by rw [← e]; exact hm))] at h2
      exact ahead_in hlt' h2
    · rw [aheadL_tail e] at h1 ⊢
      have hm := aheadL_mem hlt' h1
      rw [aheadL_tail (fun e => hi (by rw [← e]; exact hm))] at h2
      exact aheadL_trans hnd' hlt' h1 h2
/-- One that comes next sees what is closed. -/
theorem sees_closed : ∀ {r : List Nat}, RowG h C r → (C.testBit 1 = true → ∀ k m j, (plSee h C r k).testBit m = true → (plSee h C r m).testBit j = true → (plSee h C r k).testBit j = true) ∧
    (C.testBit 2 = true → ∀ k m j, (plSee h C r k).testBit m = true → (aheadL r m).testBit j = true → (plSee h C r k).testBit j = true)
  | [], _ => ⟨fun _ k m j h1 _ => by unfold plSee at h1; simp at h1, fun _ k m j h1 _ => by unfold plSee at h1; simp at h1⟩
  | i :: r, g => by
    obtain ⟨hi, hnd'⟩ := List.nodup_cons.1 g.nd
    have gt := g.tail
    obtain ⟨I1, I2⟩ := sees_closed gt
    have hin : ∀ m, (wld4 (baseN h C i) (plS r) (rivN h i) C (plSee h C r) (aheadL r)).testBit m = true → (plS r).testBit m = true := fun m hm =>
      wld4_in g.head (fun k j _ hj => ahead_in gt.lt (sees_ahead gt.lt gt.nd gt.base hj)) (fun k j _ hj => ahead_in gt.lt hj) hm
    obtain ⟨N1, N2⟩ := wld4_closed (b := baseN h C i) (pl := plS r) (rv := rivN h i) (C := C) (sF := plSee h C r) (aF := aheadL r) (fun k j hj => gt.lt j (aheadL_mem gt.lt hj)) (fun m hm => gt.lt m (plS_mem gt.lt (hin m hm)))
      (fun k j hj => sees_ahead gt.lt gt.nd gt.base hj) (fun hc k m j => I1 hc k m j) (fun k m j => aheadL_trans gt.nd gt.lt)
    constructor
    · intro hc k m j h1 h2
      by_cases e : k = i
      · subst e
        rw [plSee, if_pos rfl] at h1 ⊢
        have hm := plS_mem gt.lt (hin m h1)
        rw [plSee_tail (fun e => hi (by rw [← e]; exact hm))] at h2
        exact N1 hc m j h1 h2
      · rw [plSee_tail e] at h1 ⊢
        have hm := aheadL_mem gt.lt (sees_ahead gt.lt gt.nd gt.base h1)
        rw [plSee_tail (fun e => hi (by rw [← e]; exact hm))] at h2
        exact I1 hc k m j h1 h2
    · intro hc k m j h1 h2
      by_cases e : k = i
      · subst e
        rw [plSee, if_pos rfl] at h1 ⊢
        have hm := plS_mem gt.lt (hin m h1)
        rw [aheadL_tail (fun e => hi (by rw [← e]; exact hm))] at h2
        exact N2 hc m j h1 h2
      · rw [plSee_tail e] at h1 ⊢
        have hm := aheadL_mem gt.lt (sees_ahead gt.lt gt.nd gt.base h1)
        rw [aheadL_tail (fun e => hi (by rw [← e]; exact hm))] at h2
        exact I2 hc k m j h1 h2
/-- Whom one sees, by the whole row. -/
theorem sees_fix : ∀ {r : List Nat}, RowG h C r → ∀ k, k ∈ r → plSee h C r k = wld4 (baseN h C k) (aheadL r k) (rivN h k) C (plSee h C r) (aheadL r)
  | [], _, k, hk => by cases hk
  | i :: r, g, k, hk => by
    obtain ⟨hi, hnd'⟩ := List.nodup_cons.1 g.nd
    have gt := g.tail
    have hS : ∀ k j, (plSee h C r k).testBit j = true → (plS r).testBit j = true := fun k j hj => ahead_in gt.lt (sees_ahead gt.lt gt.nd gt.base hj)
    by_cases e : k = i
    · subst e
      rw [show aheadL (k :: r) k = plS r by rw [aheadL, if_pos rfl]]
      conv => lhs; rw [plSee, if_pos rfl]
      refine wld4_congr g.head (fun m hm hp => ?_) (fun m j _ => hS m j)
      have hne : m ≠ k := fun e => hi (by rw [← e]; exact plS_mem gt.lt hp)
      rw [plSee_tail hne, aheadL_tail hne]; exact ⟨rfl, rfl⟩
    · have hkr : k ∈ r := by rcases List.mem_cons.1 hk with q | q; exact (e q).elim; exact q
      rw [plSee_tail e, aheadL_tail e, sees_fix gt k hkr]
      refine wld4_congr (gt.base k hkr) (fun m hm hp => ?_) (fun m j hp hj => aheadL_trans gt.nd gt.lt hp (sees_ahead gt.lt gt.nd gt.base hj))
      have hne : m ≠ i := fun e => hi (by rw [← e]; exact aheadL_mem gt.lt hp)
      rw [plSee_tail hne, aheadL_tail hne]; exact ⟨rfl, rfl⟩
theorem ahead_snoc {a b c : Int} : ∀ {L : List Int}, Ahead (L ++ [c]) a b ↔ Ahead L a b ∨ (a ∈ L ∧ b = c)
  | [] => by simp [Ahead]
  | d :: L => by
    show Ahead (L ++ [c]) a b ∨ (d = a ∧ b ∈ L ++ [c]) ↔ (Ahead L a b ∨ (d = a ∧ b ∈ L)) ∨ (a ∈ d :: L ∧ b = c)
    rw [ahead_snoc, List.mem_append, List.mem_singleton, List.mem_cons]
    constructor
    · rintro ((q | ⟨q1, q2⟩) | ⟨q1, q2 | q2⟩)
      · exact .inl (.inl q)
      · exact .inr ⟨.inr q1, q2⟩
      · exact .inl (.inr ⟨q1, q2⟩)
      · exact .inr ⟨.inl q1.symm, q2⟩
    · rintro ((q | ⟨q1, q2⟩) | ⟨q1 | q1, q2⟩)
      · exact .inl (.inl q)
      · exact .inr ⟨q1, .inl q2⟩
      · exact .inr ⟨q1.symm, .inr q2⟩
      · exact .inl (.inr ⟨q1, q2⟩)
theorem ahead_chain {r : List Nat} (hnd : r.Nodup) (hlt : ∀ k ∈ r, k < 64) (j k : Nat) : chainR (r.reverse.map Int.ofNat) j k = true ↔ (aheadL r k).testBit j = true := by
  rw [chainR_iff]
  induction r with
  | nil => simp [Ahead, aheadL]
  | cons i r ih =>
    obtain ⟨hi, hnd'⟩ := List.nodup_cons.1 hnd
    have hlt' : ∀ a ∈ r, a < 64 := fun a ha => hlt a (List.mem_cons_of_mem _ ha)
    have ih := ih hnd' hlt'
    rw [List.reverse_cons, List.map_append, List.map_cons, List.map_nil, ahead_snoc, ih]
    have hmem : ((j : Int) ∈ r.reverse.map Int.ofNat) ↔ j ∈ r := by
      rw [List.mem_map]
      exact ⟨fun ⟨a, ha, e⟩ => by have : a = j := Int.ofNat.inj e; rw [← this]; exact List.mem_reverse.1 ha, fun q => ⟨j, List.mem_reverse.2 q, rfl⟩⟩
    rw [hmem]
    by_cases e : k = i
    · subst e
      rw [aheadL, if_pos rfl, plS_bit j r hlt', decide_eq_true_eq, aheadL_out hi]
      simp
    · rw [aheadL_tail e]
      constructor
      · rintro (q | ⟨_, q⟩)
        · exact q
        · exact (e (Int.ofNat.inj q)).elim
      · exact fun q => .inl q
end
end Go.Proofs.YtecpeegbfeijaaaGreatDoor

namespace Go.Proofs.YtecpeegbfeijaaaGreatDoor
set_option maxRecDepth 100000
open Go.RowKit

/-- Where one stands in a row, from a place on; -1: nowhere. -/
def placeF : List Int → Int → Nat → Int
  | [], _, _ => -1
  | a :: r, i, k => if a = i then (k : Int) else placeF r i (k + 1)
def placeI (l : List Int) (i : Int) : Int := placeF l i 0
theorem placeF_neg (i : Int) : ∀ (l : List Int) (k : Nat), placeF l i k < 0 ↔ i ∉ l
  | [], k => by simp [placeF]
  | a :: r, k => by
    unfold placeF
    by_cases h : a = i
    · rw [if_pos h]
      constructor
      · intro h2; omega
      · intro h2; exact absurd (by rw [h]; exact List.mem_cons_self) h2
    · rw [if_neg h, placeF_neg i r (k + 1), List.mem_cons]
      constructor
      · intro h2 h3
        rcases h3 with h3 | h3
        · exact h h3.symm
        · exact h2 h3
      · intro h2 h3; exact h2 (.inr h3)
theorem placeF_step {l : List Int} {i : Int} {k : Nat} (h : k < l.length) : placeF (l.drop k) i k = if l[k] = i then (k : Int) else placeF (l.drop (k + 1)) i (k + 1) := by
  rw [List.drop_eq_getElem_cons h]; rfl
theorem rplace_any (va : Value) (l : List Int) (i : Int) (w : World) (hl : Ints w va l) :
    Calls Tryz.prog 134 #[va, .int .i64 i] w fun e w' => e = .returned (.int .i64 (placeI l i)) ∧ w = w' := by
  have HL := Lib.hid hl
  obtain ⟨ao, cap, rfl, hal⟩ := hl.form
  have HR : Hid (placeI l i = placeF (l.drop 0) i 0) := Lib.hid (by rw [List.drop_zero]; rfl)
  generalize placeI l i = z at *
  clear hl
  go_enter Tryz.func134, Tryz.ntmps134
  go_wp2_with fail
  go_loopw [5] (fun v wr => ∃ k : Nat, k ≤ l.length ∧ v = .int .i64 k ∧ Hid (z = placeF (l.drop k) i k) ∧ w = wr) (fun v _ => l.length - (intOf v).toNat)
  case atStart => exact ⟨0, by omega, rfl, HR, rfl⟩
  case round =>
    clear HR
    obtain ⟨k, hk, rfl, HP, rfl⟩ := hrel
    by_cases hlt : k < l.length
    · have hki : (k : Int) < (l.length : Int) := by omega
      obtain ⟨g, o, hao, e0⟩ := HL.out.at hlt
      cases hao
      have HN := Lib.hid (HP.out.trans (placeF_step hlt))
      clear HP
      generalize l[k] = x at *
      by_cases hx : x = i
      · have HV : Hid ((k : Int) = z) := Lib.hid (by rw [HN.out, if_pos hx])
        subst hx
        clear HN
        go_wp2_with fail
        go_ret
        exact ⟨congrArg (fun q => Ending.returned (Value.int .i64 q)) HV.out, rfl⟩
      · have HV : Hid (z = placeF (l.drop (k + 1)) i (k + 1)) := Lib.hid (by rw [HN.out, if_neg hx])
        clear HN
        go_wp2_with fail
        go_roundw
        case rel => exact ⟨k + 1, by omega, by go_num, HV, by first | rfl | trivial⟩
        case measure => simp [intOf]; omega
    · have hk2 : k = l.length := by omega
      subst hk2
      have HV : Hid (z = -1) := Lib.hid (by rw [HP.out, List.drop_length]; rfl)
      clear HP
      go_wp2_with fail
      go_ret
      exact ⟨congrArg (fun q => Ending.returned (Value.int .i64 q)) HV.out.symm, rfl⟩
/-- Are all numbers below n there, and no more of them? -/
def rowTo (l : List Int) (k : Nat) : Bool := (List.range k).all fun i => decide ((i : Int) ∈ l)
theorem rowTo_succ (l : List Int) (k : Nat) : rowTo l (k + 1) = (rowTo l k && decide ((k : Int) ∈ l)) := by
  unfold rowTo; rw [List.range_succ, List.all_append]; simp
theorem rowTo_no {l : List Int} {k n : Nat} (h : k < n) (hn : ¬ (k : Int) ∈ l) : rowTo l n = false := by
  unfold rowTo
  rw [List.all_eq_false]
  exact ⟨k, List.mem_range.2 h, by simpa using hn⟩
def rowRef12 (n : Nat) (l : List Int) : Bool := rowTo l n && decide ((l.length : Int) = n)
theorem rrow12_any (n : Nat) (va : Value) (l : List Int) (w : World) (hn : n ≤ 1000) (hl : Ints w va l) :
    Calls Tryz.prog 92 #[.int .i64 n, va] w fun e w' => e = .returned (.bool (rowRef12 n l)) ∧ w = w' := by
  have CP := Lib.hid (fun i => rplace_any va l i w hl)
  obtain ⟨ao, cap, rfl, hal⟩ := hl.form
  have HR : Hid (rowRef12 n l = (rowTo l n && decide ((l.length : Int) = n))) := Lib.hid rfl
  generalize rowRef12 n l = z at *
  clear hl
  go_enter Tryz.func92, Tryz.ntmps92
  go_wp2_with fail
  go_loopw [5] (fun v wr => ∃ k : Nat, k ≤ n ∧ v = .int .i64 k ∧ Hid (rowTo l k = true) ∧ w = wr) (fun v _ => n - (intOf v).toNat)
  case atStart => exact ⟨0, by omega, rfl, Lib.hid rfl, rfl⟩
  case round =>
    obtain ⟨k, hk, rfl, HP, rfl⟩ := hrel
    by_cases hlt : k < n
    · have hki : (k : Int) < (n : Int) := by omega
      have CK := Lib.hid (CP.out (k : Int))
      by_cases hm : (k : Int) ∈ l
      · have hz : ¬ placeI l (k : Int) < 0 := fun h => (placeF_neg _ l 0).1 h hm
        have HV : Hid (rowTo l (k + 1) = true) := Lib.hid (by rw [rowTo_succ, HP.out, decide_eq_true hm]; rfl)
        clear HP HR CP hm
        generalize placeI l (k : Int) = p at *
        go_wp2_with fail
        refine (CK.out).mono ?_
        rintro e w1 ⟨rfl, rfl⟩
        go_wp2_with fail
        go_roundw
        case rel => exact ⟨k + 1, by omega, by go_num, HV, by first | rfl | trivial⟩
        case measure => simp [intOf]; omega
      · have hz : placeI l (k : Int) < 0 := (placeF_neg _ l 0).2 hm
        have HV : Hid (false = z) := Lib.hid (by rw [HR.out, rowTo_no hlt hm]; rfl)
        clear HP HR CP hm
        generalize placeI l (k : Int) = p at *
        go_wp2_with fail
        refine (CK.out).mono ?_
        rintro e w1 ⟨rfl, rfl⟩
        go_wp2_with fail
        go_ret
        exact ⟨ret_b HV.out, rfl⟩
    · have hk2 : k = n := by omega
      subst hk2
      by_cases hq : (l.length : Int) = (k : Int)
      · have HV : Hid (true = z) := Lib.hid (by rw [HR.out, HP.out, decide_eq_true hq]; rfl)
        clear HP HR CP
        go_wp2_with fail
        go_ret
        exact ⟨ret_b HV.out, rfl⟩
      · have HV : Hid (false = z) := Lib.hid (by rw [HR.out, HP.out, decide_eq_false hq]; rfl)
        clear HP HR CP
        go_wp2_with fail
        go_ret
        exact ⟨ret_b ((beq_eq_false_iff_ne.2 hq).trans HV.out), rfl⟩
/-- Where the length is n, all numbers below n are there just where none but those are: counted. -/
theorem count_full : ∀ (n : Nat) (l : List Int), l.length = n → rowTo l n = true → ∀ a ∈ l, 0 ≤ a ∧ a < (n : Int)
  | 0, [], _, _, a, h => by cases h
  | n + 1, l, hl, hr, a, ha => by
    rw [rowTo_succ, Bool.and_eq_true, decide_eq_true_eq] at hr
    obtain ⟨h1, h2⟩ := hr
    have hle : (l.erase (n : Int)).length = n := by rw [List.length_erase_of_mem h2, hl]; rfl
    have hr2 : rowTo (l.erase (n : Int)) n = true := by
      unfold rowTo at h1 ⊢
      rw [List.all_eq_true] at h1 ⊢
      intro i hi
      have hin := List.mem_range.1 hi
      have h3 := h1 i hi
      rw [decide_eq_true_eq] at h3 ⊢
      exact (List.mem_erase_of_ne (by omega)).2 h3
    have ih := count_full n (l.erase (n : Int)) hle hr2
    by_cases hn : a = (n : Int)
    · omega
    · have := ih a ((List.mem_erase_of_ne hn).2 ha)
      omega
theorem row_same (n : Nat) (hn : n ≤ 64) (l : List Int) : rowOkA (n : Int) l = rowRef12 n l := by
  unfold rowOkA rowRef12
  rw [Bool.and_comm]
  by_cases hl : (l.length : Int) = n
  · rw [decide_eq_true hl, Bool.and_true, Bool.and_true, Bool.eq_iff_iff, decide_eq_true_eq, setL_eq, ← below_eq]
    have hm : min 64 ((n : Int)).toNat = n := by omega
    rw [hm]
    have hb : ∀ (m : List Int) (i : Nat), i < 64 → ((ofL m).testBit i = true ↔ (i : Int) ∈ m) := fun m i hi => by
      rw [testBit_ofL, decide_eq_true hi, Bool.true_and]
      unfold hasL
      rw [List.any_eq_true]
      constructor
      · rintro ⟨x, hx, he⟩
        have : x = (i : Int) := by simpa using he
        rw [← this]; exact hx
      · intro h; exact ⟨_, h, by simp⟩
    have hr : ∀ i : Nat, ((i : Int) ∈ (List.range n).map Int.ofNat) ↔ i < n := fun i => by
      rw [List.mem_map]
      constructor
      · rintro ⟨q, hq, e⟩
        have := List.mem_range.1 hq
        have e2 : (q : Int) = (i : Int) := e
        omega
      · intro h; exact ⟨i, List.mem_range.2 h, rfl⟩
    constructor
    · intro e
      unfold rowTo
      rw [List.all_eq_true]
      intro i hi
      have hin := List.mem_range.1 hi
      rw [decide_eq_true_eq]
      refine (hb l i (by omega)).1 ?_
      rw [e]
      exact (hb _ i (by omega)).2 ((hr i).2 hin)
    · intro h
      refine set_ext (isSet_ofL l) (isSet_ofL _) fun i hi => ?_
      rw [Bool.eq_iff_iff, hb l i hi, hb _ i hi, hr i]
      constructor
      · intro hm
        have := count_full n l (by omega) h _ hm
        omega
      · intro hin
        unfold rowTo at h
        have := List.all_eq_true.1 h i (List.mem_range.2 hin)
        simpa using this
  · rw [decide_eq_false hl, Bool.and_false, Bool.and_false]
end Go.Proofs.YtecpeegbfeijaaaGreatDoor

namespace Go.Proofs.YtecpeegbfeijaaaGreatDoor
set_option maxRecDepth 100000
open Go.RowKit

set_option maxHeartbeats 4000000 in
theorem rtime_any (va : Value) (h : List TxnV) (a b : Nat) (w : World) (hT : Txns w va h) (ha : a < h.length) (hb : b < h.length) :
    Calls Tryz.prog 175 #[va, .int .i64 a, .int .i64 b] w fun e w' => e = .returned (.bool (decide (h[a].c < h[b].b))) ∧ Below w.heap.size w w' := by
  obtain ⟨ao, cap, rfl, hal⟩ := hT.form
  obtain ⟨g, o, hao, c0, c1, c2, c3⟩ := hT.at ha
  cases hao
  obtain ⟨g', o', hao, d0, d1, d2, d3⟩ := hT.at hb
  cases hao
  have hai : (a : Int) < (h.length : Int) := by omega
  have hbi : (b : Int) < (h.length : Int) := by omega
  generalize h[a].c = x at *
  generalize h[b].b = y at *
  clear c0 c1 c3 d0 d2 d3 hT
  go_enter Tryz.func175, Tryz.ntmps175
  go_wp2_with fail
  go_quiet (fail)
  go_wp2_with fail
  go_ret
  exact ⟨rfl, below_drewN (Below.refl _ _) _⟩
set_option maxHeartbeats 4000000 in
theorem rsession_any (va : Value) (h : List TxnV) (a b : Nat) (w : World) (hT : Txns w va h) (ha : a < h.length) (hb : b < h.length) :
    Calls Tryz.prog 174 #[va, .int .i64 a, .int .i64 b] w fun e w' => e = .returned (.bool (decide (a < b) && decide (h[a].s = h[b].s))) ∧ Below w.heap.size w w' := by
  obtain ⟨ao, cap, rfl, hal⟩ := hT.form
  obtain ⟨g, o, hao, c0, c1, c2, c3⟩ := hT.at ha
  cases hao
  obtain ⟨g', o', hao, d0, d1, d2, d3⟩ := hT.at hb
  cases hao
  have hai : (a : Int) < (h.length : Int) := by omega
  have hbi : (b : Int) < (h.length : Int) := by omega
  generalize h[a].s = x at *
  generalize h[b].s = y at *
  clear c1 c2 c3 d1 d2 d3 hT
  by_cases hab : a < b
  · have H : Hid ((decide (a < b) && decide (x = y)) = decide (x = y)) := Lib.hid (by rw [decide_eq_true hab]; rfl)
    have habi : (a : Int) < (b : Int) := by omega
    rw [H.out]
    clear hab H
    go_enter Tryz.func174, Tryz.ntmps174
    go_wp2_with fail
    go_quiet (fail)
    go_wp2_with fail
    go_ret
    exact ⟨rfl, below_drewN (Below.refl _ _) _⟩
  · have H : Hid ((decide (a < b) && decide (x = y)) = false) := Lib.hid (by rw [decide_eq_false hab]; rfl)
    have habi : ¬ (a : Int) < (b : Int) := by omega
    have hd : decide ((a : Int) < (b : Int)) = false := decide_eq_false habi
    have hle : (b : Int) ≤ (a : Int) := by omega
    have hdn : decide (a < b) = false := decide_eq_false hab
    rw [H.out]
    clear H
    go_enter Tryz.func174, Tryz.ntmps174
    go_wp2_with fail
    go_quiet (fail)
    go_wp2_with fail
    go_ret
    exact ⟨rfl, below_drewN (Below.refl _ _) _⟩
end Go.Proofs.YtecpeegbfeijaaaGreatDoor

namespace Go.Proofs.YtecpeegbfeijaaaGreatDoor
set_option maxRecDepth 100000
open Go.RowKit

/-- Does one come ahead of another one in a row, as the reference says it? -/
def ahR (l : List Int) (i k : Int) : Bool := decide (placeI l i < placeI l k)
theorem rahead_any (va : Value) (l : List Int) (i k : Int) (w : World) (hl : Ints w va l) :
    Calls Tryz.prog 177 #[va, .int .i64 i, .int .i64 k] w fun e w' => e = .returned (.bool (ahR l i k)) ∧ w = w' := by
  have C := Lib.hid (fun j => rplace_any va l j w hl)
  have HR : Hid (ahR l i k = decide (placeI l i < placeI l k)) := Lib.hid rfl
  obtain ⟨ao, cap, rfl, hal⟩ := hl.form
  have CI := Lib.hid (C.out i)
  have CK := Lib.hid (C.out k)
  generalize ahR l i k = z at *
  generalize placeI l i = x at *
  generalize placeI l k = y at *
  clear hl C
  go_enter Tryz.func177, Tryz.ntmps177
  go_wp2_with fail
  refine (CI.out).mono ?_
  rintro e w1 ⟨rfl, rfl⟩
  go_wp2_with fail
  refine (CK.out).mono ?_
  rintro e w1 ⟨rfl, rfl⟩
  go_wp2_with fail
  go_ret
  exact ⟨ret_b HR.out.symm, rfl⟩
/-- Must one be seen by another one, whatever else is, as the reference says it? -/
def mustR (h : List TxnV) (x : Nat) (l : List Int) (i k : Nat) : Bool := ((froR h i k || (hasT x 1 && sesP h i k)) || (hasT x 32 && timP h i k)) || (ahR l (i : Int) (k : Int) && (hasT x 16 || (hasT x 8 && rivR h i k)))
set_option maxHeartbeats 16000000 in
theorem rmust_any (va vr : Value) (h : List TxnV) (x : Nat) (hx : x < 64) (l : List Int) (i k : Nat) (hi : i < h.length) (hk : k < h.length) (hne : i ≠ k) (w : World) (hT : Txns w va h) (hl : Ints w vr l) :
    Calls Tryz.prog 170 #[va, .int .i64 x, vr, .int .i64 i, .int .i64 k] w fun e w' => e = .returned (.bool (mustR h x l i k)) ∧ Below w.heap.size w w' := by
  have CF := Lib.hid (rfrom8_any va h i k hk w hT)
  have CS := Lib.hid (fun wx (hx : Below w.heap.size w wx) => rsession_any va h i k wx (hT.below hx) hi hk)
  have CT := Lib.hid (fun wx (hx : Below w.heap.size w wx) => rtime_any va h i k wx (hT.below hx) hi hk)
  have CR := Lib.hid (fun wx (hx : Below w.heap.size w wx) => rrivals_any va h i k hi hk hne wx (hT.below hx))
  have CA := Lib.hid (fun wx (hx : Below w.heap.size w wx) => rahead_any vr l (i : Int) (k : Int) wx (hl.below hx))
  have C1 := Lib.hid (fun wx => rl_has x 1 hx (by omega) (by omega) wx)
  have C32 := Lib.hid (fun wx => rl_has x 32 hx (by omega) (by omega) wx)
  have C16 := Lib.hid (fun wx => rl_has x 16 hx (by omega) (by omega) wx)
  have C8 := Lib.hid (fun wx => rl_has x 8 hx (by omega) (by omega) wx)
  have HR : Hid (mustR h x l i k = (((froR h i k || (hasT x 1 && sesP h i k)) || (hasT x 32 && timP h i k)) || (ahR l (i : Int) (k : Int) && (hasT x 16 || (hasT x 8 && rivR h i k))))) := Lib.hid rfl
  rw [show sesP h i k = (decide (i < k) && decide (h[i].s = h[k].s)) by unfold sesP; rw [sAt_eq hi, sAt_eq hk], show timP h i k = decide (h[i].c < h[k].b) by unfold timP; rw [cAt_eq hi, bAt_eq hk]] at HR
  obtain ⟨ao, cap, rfl, hal⟩ := hT.form
  obtain ⟨ro, rcap, rfl, hrl⟩ := hl.form
  clear hT hl
  generalize mustR h x l i k = z at *
  generalize froR h i k = p1 at *
  generalize (decide (i < k) && decide (h[i].s = h[k].s)) = p2 at *
  generalize decide (h[i].c < h[k].b) = p3 at *
  generalize rivR h i k = p4 at *
  generalize ahR l (i : Int) (k : Int) = p5 at *
  generalize hasT x 1 = b1 at *
  generalize hasT x 32 = b2 at *
  generalize hasT x 16 = b3 at *
  generalize hasT x 8 = b4 at *
  go_enter Tryz.func170, Tryz.ntmps170
  go_wp2_with fail
  refine (CF.out).mono ?_
  rintro e w1 ⟨rfl, hb⟩
  cases p1 with
  | true =>
    go_wp2_with fail
    go_ret
    exact ⟨ret_b (by rw [HR.out]; rfl), hb⟩
  | false =>
    go_wp2_with fail
    refine (C1.out _).mono ?_
    rintro e w2 ⟨rfl, rfl⟩
    cases b1 with
    | true =>
      go_wp2_with fail
      refine (CS.out _ hb).mono ?_
      rintro e w2 ⟨rfl, hn⟩
      have hb := below_then hb hn
      clear hn
      cases p2 with
      | true =>
        go_wp2_with fail
        go_ret
        exact ⟨ret_b (by rw [HR.out]; rfl), hb⟩
      | false =>
        go_wp2_with fail
        refine (C32.out _).mono ?_
        rintro e w2 ⟨rfl, rfl⟩
        cases b2 with
        | true =>
          go_wp2_with fail
          refine (CT.out _ hb).mono ?_
          rintro e w2 ⟨rfl, hn⟩
          have hb := below_then hb hn
          clear hn
          cases p3 with
          | true =>
            go_wp2_with fail
            go_ret
            exact ⟨ret_b (by rw [HR.out]; rfl), hb⟩
          | false =>
            go_wp2_with fail
            refine (CA.out _ hb).mono ?_
            rintro e w2 ⟨rfl, rfl⟩
            cases p5 with
            | true =>
              go_wp2_with fail
              refine (C16.out _).mono ?_
              rintro e w2 ⟨rfl, rfl⟩
              cases b3 with
              | true =>
                go_wp2_with fail
                go_ret
                exact ⟨ret_b (by rw [HR.out]; rfl), hb⟩
              | false =>
                go_wp2_with fail
                refine (C8.out _).mono ?_
                rintro e w2 ⟨rfl, rfl⟩
                cases b4 with
                | true =>
                  go_wp2_with fail
                  refine (CR.out _ hb).mono ?_
                  rintro e w2 ⟨rfl, hn⟩
                  have hb := below_then hb hn
                  clear hn
                  cases p4 with
                  | true =>
                    go_wp2_with fail
                    go_ret
                    exact ⟨ret_b (by rw [HR.out]; rfl), hb⟩
                  | false =>
                    go_wp2_with fail
                    go_ret
                    exact ⟨ret_b (by rw [HR.out]; rfl), hb⟩
                | false =>
                  go_wp2_with fail
                  go_ret
                  exact ⟨ret_b (by rw [HR.out]; rfl), hb⟩
            | false =>
              go_wp2_with fail
              go_ret
              exact ⟨ret_b (by rw [HR.out]; rfl), hb⟩
        | false =>
          go_wp2_with fail
          refine (CA.out _ hb).mono ?_
          rintro e w2 ⟨rfl, rfl⟩
          cases p5 with
          | true =>
            go_wp2_with fail
            refine (C16.out _).mono ?_
            rintro e w2 ⟨rfl, rfl⟩
            cases b3 with
            | true =>
              go_wp2_with fail
              go_ret
              exact ⟨ret_b (by rw [HR.out]; rfl), hb⟩
            | false =>
              go_wp2_with fail
              refine (C8.out _).mono ?_
              rintro e w2 ⟨rfl, rfl⟩
              cases b4 with
              | true =>
                go_wp2_with fail
                refine (CR.out _ hb).mono ?_
                rintro e w2 ⟨rfl, hn⟩
                have hb := below_then hb hn
                clear hn
                cases p4 with
                | true =>
                  go_wp2_with fail
                  go_ret
                  exact ⟨ret_b (by rw [HR.out]; rfl), hb⟩
                | false =>
                  go_wp2_with fail
                  go_ret
                  exact ⟨ret_b (by rw [HR.out]; rfl), hb⟩
              | false =>
                go_wp2_with fail
                go_ret
                exact ⟨ret_b (by rw [HR.out]; rfl), hb⟩
          | false =>
            go_wp2_with fail
            go_ret
            exact ⟨ret_b (by rw [HR.out]; rfl), hb⟩
    | false =>
      go_wp2_with fail
      refine (C32.out _).mono ?_
      rintro e w2 ⟨rfl, rfl⟩
      cases b2 with
      | true =>
        go_wp2_with fail
        refine (CT.out _ hb).mono ?_
        rintro e w2 ⟨rfl, hn⟩
        have hb := below_then hb hn
        clear hn
        cases p3 with
        | true =>
          go_wp2_with fail
          go_ret
          exact ⟨ret_b (by rw [HR.out]; rfl), hb⟩
        | false =>
          go_wp2_with fail
          refine (CA.out _ hb).mono ?_
          rintro e w2 ⟨rfl, rfl⟩
          cases p5 with
          | true =>
            go_wp2_with fail
            refine (C16.out _).mono ?_
            rintro e w2 ⟨rfl, rfl⟩
            cases b3 with
            | true =>
              go_wp2_with fail
              go_ret
              exact ⟨ret_b (by rw [HR.out]; rfl), hb⟩
            | false =>
              go_wp2_with fail
              refine (C8.out _).mono ?_
              rintro e w2 ⟨rfl, rfl⟩
              cases b4 with
              | true =>
                go_wp2_with fail
                refine (CR.out _ hb).mono ?_
                rintro e w2 ⟨rfl, hn⟩
                have hb := below_then hb hn
                clear hn
                cases p4 with
                | true =>
                  go_wp2_with fail
                  go_ret
                  exact ⟨ret_b (by rw [HR.out]; rfl), hb⟩
                | false =>
                  go_wp2_with fail
                  go_ret
                  exact ⟨ret_b (by rw [HR.out]; rfl), hb⟩
              | false =>
                go_wp2_with fail
                go_ret
                exact ⟨ret_b (by rw [HR.out]; rfl), hb⟩
          | false =>
            go_wp2_with fail
            go_ret
            exact ⟨ret_b (by rw [HR.out]; rfl), hb⟩
      | false =>
        go_wp2_with fail
        refine (CA.out _ hb).mono ?_
        rintro e w2 ⟨rfl, rfl⟩
        cases p5 with
        | true =>
          go_wp2_with fail
          refine (C16.out _).mono ?_
          rintro e w2 ⟨rfl, rfl⟩
          cases b3 with
          | true =>
            go_wp2_with fail
            go_ret
            exact ⟨ret_b (by rw [HR.out]; rfl), hb⟩
          | false =>
            go_wp2_with fail
            refine (C8.out _).mono ?_
            rintro e w2 ⟨rfl, rfl⟩
            cases b4 with
            | true =>
              go_wp2_with fail
              refine (CR.out _ hb).mono ?_
              rintro e w2 ⟨rfl, hn⟩
              have hb := below_then hb hn
              clear hn
              cases p4 with
              | true =>
                go_wp2_with fail
                go_ret
                exact ⟨ret_b (by rw [HR.out]; rfl), hb⟩
              | false =>
                go_wp2_with fail
                go_ret
                exact ⟨ret_b (by rw [HR.out]; rfl), hb⟩
            | false =>
              go_wp2_with fail
              go_ret
              exact ⟨ret_b (by rw [HR.out]; rfl), hb⟩
        | false =>
          go_wp2_with fail
          go_ret
          exact ⟨ret_b (by rw [HR.out]; rfl), hb⟩
/-- Is one seen by another one, since that sees somebody else, as the reference says it? -/
def folJ (m : List Pr) (x : Nat) (l : List Int) (i k j : Int) : Bool := hasP m j k && ((hasT x 2 && hasP m i j) || (hasT x 4 && ahR l i j))
def folR (m : List Pr) (x : Nat) (l : List Int) (i k : Int) (n : Nat) : Bool := (List.range n).any fun j => folJ m x l i k (j : Int)
set_option maxHeartbeats 16000000 in
theorem rfollows_any (vm vr : Value) (m : List Pr) (n x : Nat) (hx : x < 64) (hn : n ≤ 1000) (l : List Int) (i k : Int) (w : World) (hm : Prs w vm m) (hl : Ints w vr l) :
    Calls Tryz.prog 171 #[vm, .int .i64 n, .int .i64 x, vr, .int .i64 i, .int .i64 k] w fun e w' => e = .returned (.bool (folR m x l i k n)) ∧ w = w' := by
  have CH := Lib.hid (fun a b => phas_any vm m a b w hm)
  have CA := Lib.hid (fun j => rahead_any vr l i j w hl)
  have C2 := Lib.hid (rl_has x 2 hx (by omega) (by omega) w)
  have C4 := Lib.hid (rl_has x 4 hx (by omega) (by omega) w)
  have HJ := Lib.hid (fun j : Int => show folJ m x l i k j = (hasP m j k && ((hasT x 2 && hasP m i j) || (hasT x 4 && ahR l i j))) from rfl)
  have HR : Hid (folR m x l i k n = (List.range n).any fun j => folJ m x l i k (j : Int)) := Lib.hid rfl
  obtain ⟨ao, cap, rfl, hal⟩ := hm.form
  obtain ⟨ro, rcap, rfl, hrl⟩ := hl.form
  clear hm hl
  generalize folR m x l i k n = z at *
  generalize folJ m x l i k = F at *
  generalize hasT x 2 = b1 at *
  generalize hasT x 4 = b2 at *
  go_enter Tryz.func171, Tryz.ntmps171
  go_wp2_with fail
  go_loopw [13] (fun v wr => ∃ j : Nat, j ≤ n ∧ v = .int .i64 j ∧ Hid (((List.range j).any fun j => F (j : Int)) = false) ∧ w = wr) (fun v _ => n - (intOf v).toNat)
  case atStart => exact ⟨0, by omega, rfl, Lib.hid rfl, rfl⟩
  case round =>
    obtain ⟨j, hj, rfl, HP, rfl⟩ := hrel
    by_cases hlt : j < n
    · have hji : (j : Int) < (n : Int) := by omega
      have HS := Lib.hid (show ((List.range (j + 1)).any fun j => F (j : Int)) = F (j : Int) by rw [List.range_succ, List.any_append, HP.out]; simp)
      have HY := Lib.hid (show F (j : Int) = true → z = true from fun h => by rw [HR.out]; exact List.any_eq_true.2 ⟨j, List.mem_range.2 hlt, h⟩)
      have HQ := Lib.hid (HJ.out (j : Int))
      have D1 := Lib.hid (CH.out (j : Int) k)
      have D2 := Lib.hid (CH.out i (j : Int))
      have D3 := Lib.hid (CA.out (j : Int))
      generalize hasP m (j : Int) k = p1 at *
      generalize hasP m i (j : Int) = p2 at *
      generalize ahR l i (j : Int) = p3 at *
      generalize F (j : Int) = q at *
      clear CH CA HJ HP HR
      go_wp2_with fail
      refine (D1.out).mono ?_
      rintro e w1 ⟨rfl, rfl⟩
      cases p1 with
      | true =>
        go_wp2_with fail
        refine (C2.out).mono ?_
        rintro e w1 ⟨rfl, rfl⟩
        cases b1 with
        | true =>
          go_wp2_with fail
          refine (D2.out).mono ?_
          rintro e w1 ⟨rfl, rfl⟩
          cases p2 with
          | true =>
            have HT : Hid (true = z) := Lib.hid (HY.out (by rw [HQ.out]; rfl)).symm
            clear HS HQ HY D1 D2 D3
            go_wp2_with fail
            go_ret
            exact ⟨ret_b HT.out, rfl⟩
          | false =>
            go_wp2_with fail
            refine (C4.out).mono ?_
            rintro e w1 ⟨rfl, rfl⟩
            cases b2 with
            | true =>
              go_wp2_with fail
              refine (D3.out).mono ?_
              rintro e w1 ⟨rfl, rfl⟩
              cases p3 with
              | true =>
                have HT : Hid (true = z) := Lib.hid (HY.out (by rw [HQ.out]; rfl)).symm
                clear HS HQ HY D1 D2 D3
                go_wp2_with fail
                go_ret
                exact ⟨ret_b HT.out, rfl⟩
              | false =>
                have HN : Hid (((List.range (j + 1)).any fun j => F (j : Int)) = false) := Lib.hid (by rw [HS.out, HQ.out]; rfl)
                clear HS HQ HY D1 D2 D3
                go_wp2_with fail
                go_roundw
                case rel => exact ⟨j + 1, by omega, by go_num, HN, by first | rfl | trivial⟩
                case measure => simp [intOf]; omega
            | false =>
              have HN : Hid (((List.range (j + 1)).any fun j => F (j : Int)) = false) := Lib.hid (by rw [HS.out, HQ.out]; rfl)
              clear HS HQ HY D1 D2 D3
              go_wp2_with fail
              go_roundw
              case rel => exact ⟨j + 1, by omega, by go_num, HN, by first | rfl | trivial⟩
              case measure => simp [intOf]; omega
        | false =>
          go_wp2_with fail
          refine (C4.out).mono ?_
          rintro e w1 ⟨rfl, rfl⟩
          cases b2 with
          | true =>
            go_wp2_with fail
            refine (D3.out).mono ?_
            rintro e w1 ⟨rfl, rfl⟩
            cases p3 with
            | true =>
              have HT : Hid (true = z) := Lib.hid (HY.out (by rw [HQ.out]; rfl)).symm
              clear HS HQ HY D1 D2 D3
              go_wp2_with fail
              go_ret
              exact ⟨ret_b HT.out, rfl⟩
            | false =>
              have HN : Hid (((List.range (j + 1)).any fun j => F (j : Int)) = false) := Lib.hid (by rw [HS.out, HQ.out]; rfl)
              clear HS HQ HY D1 D2 D3
              go_wp2_with fail
              go_roundw
              case rel => exact ⟨j + 1, by omega, by go_num, HN, by first | rfl | trivial⟩
              case measure => simp [intOf]; omega
          | false =>
            have HN : Hid (((List.range (j + 1)).any fun j => F (j : Int)) = false) := Lib.hid (by rw [HS.out, HQ.out]; rfl)
            clear HS HQ HY D1 D2 D3
            go_wp2_with fail
            go_roundw
            case rel => exact ⟨j + 1, by omega, by go_num, HN, by first | rfl | trivial⟩
            case measure => simp [intOf]; omega
      | false =>
        have HN : Hid (((List.range (j + 1)).any fun j => F (j : Int)) = false) := Lib.hid (by rw [HS.out, HQ.out]; rfl)
        clear HS HQ HY D1 D2 D3
        go_wp2_with fail
        go_roundw
        case rel => exact ⟨j + 1, by omega, by go_num, HN, by first | rfl | trivial⟩
        case measure => simp [intOf]; omega
    · have hj2 : j = n := by omega
      subst hj2
      have HV : Hid (false = z) := Lib.hid (by rw [HR.out]; exact HP.out.symm)
      clear HP HR
      go_wp2_with fail
      go_ret
      exact ⟨ret_b HV.out, rfl⟩
end Go.Proofs.YtecpeegbfeijaaaGreatDoor

namespace Go.Proofs.YtecpeegbfeijaaaGreatDoor
set_option maxRecDepth 100000
open Go.RowKit

/-- All pairs of numbers below n. -/
def gridP (n : Nat) : List Pr := (List.range n).flatMap fun i => (List.range n).map fun k => (((i : Nat) : Int), ((k : Nat) : Int))
theorem gridP_len (n : Nat) : (gridP n).length = n * n := by
  unfold gridP
  rw [List.length_flatMap]
  have : ((List.range n).map fun i => ((List.range n).map fun k => ((((i : Nat) : Int), ((k : Nat) : Int)) : Pr)).length) = (List.range n).map fun _ => n := by simp
  rw [this, List.map_const']
  have hr : ∀ n k : Nat, (List.replicate n k).sum = n * k := by
    intro n k; induction n with
    | zero => simp
    | succ n ih => rw [List.replicate_succ, List.sum_cons, ih, Nat.succ_mul]; omega
  rw [hr, List.length_range]
theorem mem_gridP {n : Nat} {p : Pr} : p ∈ gridP n ↔ ∃ i k : Nat, i < n ∧ k < n ∧ p = ((i : Int), (k : Int)) := by
  unfold gridP
  rw [List.mem_flatMap]
  constructor
  · rintro ⟨i, hi, h⟩
    obtain ⟨k, hk, e⟩ := List.mem_map.1 h
    exact ⟨i, k, List.mem_range.1 hi, List.mem_range.1 hk, e.symm⟩
  · rintro ⟨i, k, hi, hk, rfl⟩
    exact ⟨i, List.mem_range.2 hi, List.mem_map.2 ⟨k, List.mem_range.2 hk, rfl⟩⟩
/-- Each once, of numbers below n, and each is one of M. -/
def InM (n : Nat) (M : Nat → Nat → Prop) (m : List Pr) : Prop := m.Nodup ∧ ∀ p ∈ m, ∃ i k : Nat, i < n ∧ k < n ∧ p = ((i : Int), (k : Int)) ∧ M i k
theorem InM.len {n : Nat} {M : Nat → Nat → Prop} {m : List Pr} (h : InM n M m) : m.length ≤ n * n := by
  rw [← gridP_len]
  refine nodup_le m (gridP n) h.1 fun p hp => ?_
  obtain ⟨i, k, hi, hk, e, _⟩ := h.2 p hp
  exact mem_gridP.2 ⟨i, k, hi, hk, e⟩
theorem InM.put {n : Nat} {M : Nat → Nat → Prop} {m : List Pr} (h : InM n M m) {i k : Nat} (hi : i < n) (hk : k < n) (hM : M i k) : InM n M (putP m (i : Int) (k : Int)) := by
  refine ⟨putP_nodup h.1, fun p hp => ?_⟩
  rcases mem_putP.1 hp with hp | rfl
  · exact h.2 p hp
  · exact ⟨i, k, hi, hk, rfl, hM⟩
/-- What must be seen of the start, what comes ahead, as the reference says it. -/
def staR (h : List TxnV) (x : Nat) (l : List Int) (n : Nat) : Mat := fun i k => decide (i < n) && decide (k < n) && decide (i ≠ k) && mustR h x l i k
def ahdR (l : List Int) (n : Nat) : Mat := fun i k => decide (i < n) && decide (k < n) && ahR l (i : Int) (k : Int)
def LeaR (h : List TxnV) (x : Nat) (l : List Int) (n i k : Nat) : Prop := Must (staR h x l n) (ahdR l n) (hasT x 2) (hasT x 4) i k
theorem staR_iff {h : List TxnV} {x : Nat} {l : List Int} {n i k : Nat} : staR h x l n i k = true ↔ i < n ∧ k < n ∧ i ≠ k ∧ mustR h x l i k = true := by
  unfold staR; simp [and_assoc]
theorem ahdR_iff {l : List Int} {n i k : Nat} : ahdR l n i k = true ↔ i < n ∧ k < n ∧ ahR l (i : Int) (k : Int) = true := by
  unfold ahdR; simp [and_assoc]
theorem leaR_lt {h : List TxnV} {x : Nat} {l : List Int} {n i k : Nat} (hm : LeaR h x l n i k) : i < n ∧ k < n := by
  induction hm with
  | base hs => have := staR_iff.1 hs; exact ⟨this.1, this.2.1⟩
  | trans _ _ _ _ ih1 ih2 => exact ⟨ih1.1, ih2.2⟩
  | pre _ _ ha _ ih => exact ⟨(ahdR_iff.1 ha).1, ih.2⟩
/-- Are all pairs ahead of a place looked at: each is there, or isn't wanted? -/
def DoneTo (n : Nat) (P : Nat → Nat → Prop) (i0 k0 : Nat) : Prop := ∀ i k : Nat, i < n → k < n → (i < i0 ∨ (i = i0 ∧ k < k0)) → P i k
theorem DoneTo.row {n : Nat} {P : Nat → Nat → Prop} {i0 : Nat} (h : DoneTo n P i0 n) : DoneTo n P (i0 + 1) 0 := fun i k hi hk hlt => h i k hi hk (by omega)
theorem DoneTo.next {n : Nat} {P : Nat → Nat → Prop} {i0 k0 : Nat} (h : DoneTo n P i0 k0) (hp : P i0 k0) : DoneTo n P i0 (k0 + 1) := fun i k hi hk hlt => by
  by_cases e : i = i0 ∧ k = k0
  · rw [e.1, e.2]; exact hp
  · exact h i k hi hk (by omega)
theorem DoneTo.none {n : Nat} {P : Nat → Nat → Prop} : DoneTo n P 0 0 := fun i k _ _ h => by omega
theorem DoneTo.mono {n : Nat} {P Q : Nat → Nat → Prop} {i0 k0 : Nat} (h : DoneTo n P i0 k0) (hp : ∀ i k, P i k → Q i k) : DoneTo n Q i0 k0 := fun i k hi hk hlt => hp i k (h i k hi hk hlt)
theorem DoneTo.all {n : Nat} {P : Nat → Nat → Prop} {k0 : Nat} (h : DoneTo n P n k0) (i k : Nat) (hi : i < n) (hk : k < n) : P i k := h i k hi hk (.inl hi)
/-- The first round: what must be seen of the start. -/
def FirP (h : List TxnV) (x : Nat) (l : List Int) (n : Nat) (m : List Pr) (i k : Nat) : Prop := staR h x l n i k = true → ((i : Int), (k : Int)) ∈ m
/-- A round that adds nothing: what follows is there. -/
def ClsP (x : Nat) (l : List Int) (n : Nat) (m : List Pr) (i k : Nat) : Prop := hasP m (i : Int) (k : Int) = true ∨ folR m x l (i : Int) (k : Int) n = false
theorem folR_iff {m : List Pr} {x : Nat} {l : List Int} {i k : Int} {n : Nat} : folR m x l i k n = true ↔ ∃ j : Nat, j < n ∧ ((j : Int), k) ∈ m ∧ ((hasT x 2 = true ∧ (i, (j : Int)) ∈ m) ∨ (hasT x 4 = true ∧ ahR l i (j : Int) = true)) := by
  unfold folR folJ
  rw [List.any_eq_true]
  constructor
  · rintro ⟨j, hj, h⟩
    rw [Bool.and_eq_true, Bool.or_eq_true, Bool.and_eq_true, Bool.and_eq_true, hasP_iff, hasP_iff] at h
    exact ⟨j, List.mem_range.1 hj, h.1, h.2⟩
  · rintro ⟨j, hj, h1, h2⟩
    refine ⟨j, List.mem_range.2 hj, ?_⟩
    rw [Bool.and_eq_true, Bool.or_eq_true, Bool.and_eq_true, Bool.and_eq_true, hasP_iff, hasP_iff]
    exact ⟨h1, h2⟩
theorem fol_lea {h : List TxnV} {x : Nat} {l : List Int} {n : Nat} {m : List Pr} (hn : n ≤ 64) (hm : InM n (LeaR h x l n) m) {i k : Nat} (hi : i < n) (hf : folR m x l (i : Int) (k : Int) n = true) : LeaR h x l n i k := by
  obtain ⟨j, hj, h1, h2⟩ := folR_iff.1 hf
  obtain ⟨a, b, ha, hb, e, hab⟩ := hm.2 _ h1
  have e1 := congrArg Prod.fst e
  have e2 := congrArg Prod.snd e
  simp at e1 e2
  obtain rfl : j = a := by omega
  obtain rfl : k = b := by omega
  rcases h2 with ⟨h2, h3⟩ | ⟨h2, h3⟩
  · obtain ⟨a, c, _, _, e, hac⟩ := hm.2 _ h3
    have e1 := congrArg Prod.fst e
    have e2 := congrArg Prod.snd e
    simp at e1 e2
    obtain rfl : i = a := by omega
    obtain rfl : j = c := by omega
    exact .trans h2 (by omega) hac hab
  · exact .pre h2 (by omega) (ahdR_iff.2 ⟨hi, hj, h3⟩) hab
/-- What the reference's Of answers. -/
def LeaL (h : List TxnV) (x : Nat) (l : List Int) (n : Nat) (m : List Pr) : Prop := m.Nodup ∧ ∀ a b : Int, (a, b) ∈ m ↔ ∃ i k : Nat, a = (i : Int) ∧ b = (k : Int) ∧ LeaR h x l n i k
theorem lea_done {h : List TxnV} {x : Nat} {l : List Int} {n : Nat} {m : List Pr} (hm : InM n (LeaR h x l n) m) (hf : ∀ i k : Nat, i < n → k < n → FirP h x l n m i k) (hc : ∀ i k : Nat, i < n → k < n → ClsP x l n m i k) : LeaL h x l n m := by
  refine ⟨hm.1, fun a b => ⟨fun hp => ?_, ?_⟩⟩
  · obtain ⟨i, k, _, _, e, hM⟩ := hm.2 _ hp
    exact ⟨i, k, congrArg Prod.fst e, congrArg Prod.snd e, hM⟩
  · rintro ⟨i, k, rfl, rfl, hM⟩
    have step : ∀ i k : Nat, i < n → k < n → folR m x l (i : Int) (k : Int) n = true → ((i : Int), (k : Int)) ∈ m := fun i k hi hk hfo => by
      rcases hc i k hi hk with h | h
      · exact hasP_iff.1 h
      · rw [h] at hfo; cases hfo
    unfold LeaR at hM
    induction hM with
    | base hs => have := staR_iff.1 hs; exact hf _ _ this.1 this.2.1 hs
    | @trans i j k ht _ h1 h2 ih1 ih2 =>
      have l1 := leaR_lt (h := h) (x := x) (l := l) h1
      have l2 := leaR_lt (h := h) (x := x) (l := l) h2
      exact step i k l1.1 l2.2 (folR_iff.2 ⟨j, l1.2, ih2, .inl ⟨ht, ih1⟩⟩)
    | @pre i j k ht _ ha h2 ih =>
      have l1 := ahdR_iff.1 ha
      have l2 := leaR_lt (h := h) (x := x) (l := l) h2
      exact step i k l1.1 l2.2 (folR_iff.2 ⟨j, l1.2.1, ih, .inr ⟨ht, l1.2.2⟩⟩)
theorem FirP.put {h : List TxnV} {x : Nat} {l : List Int} {n : Nat} {m : List Pr} {a b : Int} {i k : Nat} (hf : FirP h x l n m i k) : FirP h x l n (putP m a b) i k := fun hs => mem_putP.2 (.inl (hf hs))
def flagOf : Value → Nat
  | .bool true => 1
  | _ => 0
set_option maxHeartbeats 16000000 in
theorem rof11_any (va vr : Value) (h : List TxnV) (x : Nat) (hx : x < 64) (l : List Int) (w : World) (hn : h.length ≤ 64) (hT : Txns w va h) (hl : Ints w vr l) :
    Calls Tryz.prog 128 #[va, .int .i64 x, vr] w fun e w' => ∃ v m, e = .returned v ∧ Prs w' v m ∧ LeaL h x l h.length m ∧ Below w.heap.size w w' := by
  have CM := Lib.hid (fun (i k : Nat) (hi : i < h.length) (hk : k < h.length) (hne : i ≠ k) wx (hb : Below w.heap.size w wx) => rmust_any va vr h x hx l i k hi hk hne wx (hT.below hb) (hl.below hb))
  have CF := Lib.hid (fun (vm : Value) (m : List Pr) (i k : Int) wx (hb : Below w.heap.size w wx) (hm : Prs wx vm m) => rfollows_any vm vr m h.length x hx (by omega) l i k wx hm (hl.below hb))
  have b0 := box_below w (.cells #[] 216)
  have hm0 : Prs (w.alloc (.cells #[] 216)) (.slice (some ⟨w.heap.size, 0, none⟩) 0 0) [] := Prs.of_owns (base := 0) (World.ownsRow_lit (size := 2) _ _ _ (Nat.zero_le _) (by simp) (by simp))
  have HSQ : Hid (h.length * h.length ≤ 4096) := Lib.hid (by have := Nat.mul_le_mul hn hn; omega)
  obtain ⟨ao, cap, rfl, hal⟩ := hT.form
  obtain ⟨ro, rcap, rfl, hrl⟩ := hl.form
  have HN := Lib.hid hn
  clear hT hl hn
  go_enter Tryz.func128, Tryz.ntmps128
  go_wp2_with fail
  generalize w.alloc (.cells #[] 216) = w0 at *
  go_loopw [7, 8] (fun v iv wr => ∃ (i : Nat) (m : List Pr), i ≤ h.length ∧ iv = .int .i64 i ∧ Prs wr v m ∧ Hid (InM h.length (LeaR h x l h.length) m) ∧ Hid (DoneTo h.length (FirP h x l h.length m) i 0) ∧ Below w.heap.size w wr) (fun _ iv _ => h.length - (intOf iv).toNat)
  case atStart => exact ⟨0, [], by omega, rfl, hm0, Lib.hid ⟨List.nodup_nil, fun p hp => by cases hp⟩, Lib.hid DoneTo.none, b0⟩
  case round =>
    clear hm0 b0
    obtain ⟨i, m, hi, rfl, hm, HI, HD, hb⟩ := hrel
    by_cases hlt : i < h.length
    · have hii : (i : Int) < (h.length : Int) := by omega
      obtain ⟨mo, mcap, rfl, hml⟩ := hm.form
      clear CF
      go_wp2_with fail
      go_loopw [7, 9] (fun v kv wx => ∃ (k : Nat) (m : List Pr), k ≤ h.length ∧ kv = .int .i64 k ∧ Prs wx v m ∧ Hid (InM h.length (LeaR h x l h.length) m) ∧ Hid (DoneTo h.length (FirP h x l h.length m) i k) ∧ Below w.heap.size w wx) (fun _ kv _ => h.length - (intOf kv).toNat)
      case atStart => exact ⟨0, m, by omega, rfl, hm, HI, HD, hb⟩
      case round =>
        clear hm HI HD hb hml
        obtain ⟨k, m, hk, rfl, hm, HI, HD, hb⟩ := hrel
        obtain ⟨mo, mcap, rfl, hml⟩ := hm.form
        by_cases hlk : k < h.length
        · have hki : (k : Int) < (h.length : Int) := by omega
          by_cases e : i = k
          · subst e
            have HD2 := Lib.hid (HD.out.next (fun hs => absurd rfl (staR_iff.1 hs).2.2.1))
            clear HD CM
            go_wp2_with fail
            go_roundw
            case rel => exact ⟨i + 1, m, by omega, by go_num, hm, HI, HD2, hb⟩
            case measure => simp [intOf]; omega
          · have hne : ¬ (i : Int) = (k : Int) := by omega
            have hnb : ((i : Int) == (k : Int)) = false := beq_eq_false_iff_ne.2 hne
            have CQ := Lib.hid (CM.out i k hlt hlk e _ hb)
            have HE := Lib.hid e
            cases hmu : mustR h x l i k with
            | false =>
              rw [hmu] at CQ
              have HD2 := Lib.hid (HD.out.next (fun hs => by have := (staR_iff.1 hs).2.2.2; rw [hmu] at this; cases this))
              clear HD CM hmu e
              go_wp2_with fail
              refine (CQ.out).mono ?_
              rintro e w5 ⟨rfl, h5⟩
              have hm5 := hm.below h5
              have hb5 := below_then hb h5
              clear hm hb h5
              go_wp2_with fail
              go_roundw
              case rel => exact ⟨k + 1, m, by omega, by go_num, hm5, HI, HD2, hb5⟩
              case measure => simp [intOf]; omega
            | true =>
              rw [hmu] at CQ
              have HD2 : Hid (DoneTo h.length (FirP h x l h.length (putP m (i : Int) (k : Int))) i (k + 1)) := Lib.hid ((HD.out.mono (fun _ _ hf => hf.put)).next (fun _ => mem_putP.2 (.inr rfl)))
              have HI2 := Lib.hid (HI.out.put hlt hlk (.base (staR_iff.2 ⟨hlt, hlk, e, hmu⟩)))
              have hlen : m.length ≤ 1000000000 := by have := HI.out.len; have := HSQ.out; omega
              clear HD HI CM hmu e
              go_wp2_with fail
              refine (CQ.out).mono ?_
              rintro e w5 ⟨rfl, h5⟩
              have hm5 := hm.below h5
              have hb5 := below_then hb h5
              clear hm hb h5
              go_wp2_with fail
              refine (put_any _ m (i : Int) (k : Int) _ hm5 hlen).mono ?_
              rintro e w6 ⟨v6, rfl, hm6, h6⟩
              have hb6 := below_then hb5 h6
              clear hm5 hb5 h6 hml hlen
              obtain ⟨m2, hm2⟩ : ∃ m2, m2 = putP m (i : Int) (k : Int) := ⟨_, rfl⟩
              rw [← hm2] at hm6 HI2 HD2
              clear hm2
              go_wp2_with fail
              go_roundw
              case rel => exact ⟨k + 1, m2, by omega, by go_num, hm6, HI2, HD2, hb6⟩
              case measure => simp [intOf]; omega
        · have hkn : k = h.length := by omega
          have HD2 : Hid (DoneTo h.length (FirP h x l h.length m) (i + 1) 0) := Lib.hid (by have := HD.out; rw [hkn] at this; exact this.row)
          have hnk : ¬ (k : Int) < (h.length : Int) := by omega
          clear HD hkn CM
          go_wp2_with fail
          go_roundw
          case rel => exact ⟨i + 1, m, by omega, by go_num, hm, HI, HD2, hb⟩
          case measure => simp [intOf]; omega
    · have hin : i = h.length := by omega
      have HF : Hid (∀ a b : Nat, a < h.length → b < h.length → FirP h x l h.length m a b) := Lib.hid (by have := HD.out; rw [hin] at this; exact fun a b ha hb => this.all a b ha hb)
      have hni : ¬ (i : Int) < (h.length : Int) := by omega
      obtain ⟨mo, mcap, rfl, hml⟩ := hm.form
      clear HD CM hin hlt hi
      go_wp2_with fail
      go_loopw [7, 10] (fun v qv wr => ∃ (m : List Pr) (q : Bool), qv = .bool q ∧ Prs wr v m ∧ Hid (InM h.length (LeaR h x l h.length) m) ∧ Hid (∀ a b : Nat, a < h.length → b < h.length → FirP h x l h.length m a b) ∧ Hid (q = false → ∀ a b : Nat, a < h.length → b < h.length → ClsP x l h.length m a b) ∧ Below w.heap.size w wr) (fun v qv _ => 2 * (5000 - lenOf v) + flagOf qv)
      case atStart => exact ⟨m, true, rfl, hm, HI, HF, Lib.hid (fun h => by cases h), hb⟩
      case round =>
        clear hm HI HF hb hml
        obtain ⟨m, q, rfl, hm, HI, HF, HC, hb⟩ := hrel
        obtain ⟨mo, mcap, rfl, hml⟩ := hm.form
        have hl0 : m.length ≤ 4096 := by have := HI.out.len; have := HSQ.out; omega
        cases q with
        | false =>
          have HL := Lib.hid (lea_done HI.out HF.out (HC.out rfl))
          clear HI HF HC
          go_wp2_with fail
          go_ret
          exact ⟨_, m, rfl, hm, HL.out, hb⟩
        | true =>
          clear HC
          go_wp2_with fail
          obtain ⟨n0, hn0⟩ : ∃ n0, n0 = m.length := ⟨_, rfl⟩
          go_loopw [7, 10, 11] (fun v qv iv wr => ∃ (i : Nat) (m : List Pr) (q : Bool), i ≤ h.length ∧ iv = .int .i64 i ∧ qv = .bool q ∧ Prs wr v m ∧ Hid (InM h.length (LeaR h x l h.length) m) ∧ Hid (∀ a b : Nat, a < h.length → b < h.length → FirP h x l h.length m a b) ∧ Hid (q = false → DoneTo h.length (ClsP x l h.length m) i 0) ∧ Hid (n0 + flagOf (.bool q) ≤ m.length) ∧ Below w.heap.size w wr) (fun _ _ iv _ => h.length - (intOf iv).toNat)
          case atStart => exact ⟨0, m, false, by omega, rfl, rfl, hm, HI, HF, Lib.hid (fun _ => DoneTo.none), Lib.hid (by simp [flagOf]; omega), hb⟩
          case round =>
            clear hm HI HF hb hml
            obtain ⟨i, m1, q, hi, rfl, rfl, hm, HI, HF, HC, HG, hb⟩ := hrel
            obtain ⟨mo1, mcap1, rfl, hml⟩ := hm.form
            by_cases hlt : i < h.length
            · have hii : (i : Int) < (h.length : Int) := by omega
              go_wp2_with fail
              go_loopw [7, 10, 12] (fun v qv kv wx => ∃ (k : Nat) (m : List Pr) (q : Bool), k ≤ h.length ∧ kv = .int .i64 k ∧ qv = .bool q ∧ Prs wx v m ∧ Hid (InM h.length (LeaR h x l h.length) m) ∧ Hid (∀ a b : Nat, a < h.length → b < h.length → FirP h x l h.length m a b) ∧ Hid (q = false → DoneTo h.length (ClsP x l h.length m) i k) ∧ Hid (n0 + flagOf (.bool q) ≤ m.length) ∧ Below w.heap.size w wx) (fun _ _ kv _ => h.length - (intOf kv).toNat)
              case atStart => exact ⟨0, m1, q, by omega, rfl, rfl, hm, HI, HF, HC, HG, hb⟩
              case round =>
                clear hm HI HF hb hml HC HG
                obtain ⟨k, m2, q, hk, rfl, rfl, hm, HI, HF, HC, HG, hb⟩ := hrel
                obtain ⟨mo2, mcap2, rfl, hml⟩ := hm.form
                by_cases hlk : k < h.length
                · have hki : (k : Int) < (h.length : Int) := by omega
                  have CH := Lib.hid (phas_any _ m2 (i : Int) (k : Int) _ hm)
                  have CQ := Lib.hid (CF.out _ m2 (i : Int) (k : Int) _ hb hm)
                  cases hh : hasP m2 (i : Int) (k : Int) with
                  | true =>
                    have HC2 : Hid (q = false → DoneTo h.length (ClsP x l h.length m2) i (k + 1)) := Lib.hid (fun hq => (HC.out hq).next (.inl hh))
                    rw [hh] at CH
                    clear CQ HC hh CF
                    go_wp2_with fail
                    refine (CH.out).mono ?_
                    rintro e w5 ⟨rfl, rfl⟩
                    go_wp2_with fail
                    go_roundw
                    case rel => exact ⟨k + 1, m2, q, by omega, by go_num, rfl, hm, HI, HF, HC2, HG, hb⟩
                    case measure => simp [intOf]; omega
                  | false =>
                    rw [hh] at CH
                    cases hfo : folR m2 x l (i : Int) (k : Int) h.length with
                    | false =>
                      have HC2 : Hid (q = false → DoneTo h.length (ClsP x l h.length m2) i (k + 1)) := Lib.hid (fun hq => (HC.out hq).next (.inr hfo))
                      rw [hfo] at CQ
                      clear HC hh CF hfo
                      go_wp2_with fail
                      refine (CH.out).mono ?_
                      rintro e w5 ⟨rfl, rfl⟩
                      go_wp2_with fail
                      refine (CQ.out).mono ?_
                      rintro e w5 ⟨rfl, rfl⟩
                      go_wp2_with fail
                      go_roundw
                      case rel => exact ⟨k + 1, m2, q, by omega, by go_num, rfl, hm, HI, HF, HC2, HG, hb⟩
                      case measure => simp [intOf]; omega
                    | true =>
                      have HI2 := Lib.hid (HI.out.put hlt hlk (fol_lea HN.out HI.out hlt hfo))
                      have HF2 : Hid (∀ a b : Nat, a < h.length → b < h.length → FirP h x l h.length (putP m2 (i : Int) (k : Int)) a b) := Lib.hid (fun a b ha hb => (HF.out a b ha hb).put)
                      have HG2 : Hid (n0 + flagOf (.bool true) ≤ (putP m2 (i : Int) (k : Int)).length) := Lib.hid (by
                        have := HG.out
                        unfold putP
                        rw [hh, if_neg (by decide), List.length_append]
                        simp only [flagOf, List.length_cons, List.length_nil]
                        omega)
                      have hlen : m2.length ≤ 1000000000 := by have := HI.out.len; have := HSQ.out; omega
                      rw [hfo] at CQ
                      clear HC hh CF hfo HI HF HG
                      go_wp2_with fail
                      refine (CH.out).mono ?_
                      rintro e w5 ⟨rfl, rfl⟩
                      go_wp2_with fail
                      refine (CQ.out).mono ?_
                      rintro e w5 ⟨rfl, rfl⟩
                      go_wp2_with fail
                      refine (put_any _ m2 (i : Int) (k : Int) _ hm hlen).mono ?_
                      rintro e w6 ⟨v6, rfl, hm6, h6⟩
                      have hb6 := below_then hb h6
                      clear hm hb h6 hml hlen CH CQ
                      obtain ⟨m3, hm3⟩ : ∃ m3, m3 = putP m2 (i : Int) (k : Int) := ⟨_, rfl⟩
                      rw [← hm3] at hm6 HI2 HF2 HG2
                      clear hm3
                      go_wp2_with fail
                      go_roundw
                      case rel => exact ⟨k + 1, m3, true, by omega, by go_num, rfl, hm6, HI2, HF2, Lib.hid (fun h => by cases h), HG2, hb6⟩
                      case measure => simp [intOf]; omega
                · have hkn : k = h.length := by omega
                  have HC2 : Hid (q = false → DoneTo h.length (ClsP x l h.length m2) (i + 1) 0) := Lib.hid (fun hq => by have := HC.out hq; rw [hkn] at this; exact this.row)
                  have hnk : ¬ (k : Int) < (h.length : Int) := by omega
                  clear HC hkn CF
                  go_wp2_with fail
                  go_roundw
                  case rel => exact ⟨i + 1, m2, q, by omega, by go_num, rfl, hm, HI, HF, HC2, HG, hb⟩
                  case measure => simp [intOf]; omega
            · have hin : i = h.length := by omega
              have HC2 : Hid (q = false → ∀ a b : Nat, a < h.length → b < h.length → ClsP x l h.length m1 a b) := Lib.hid (fun hq => by have := HC.out hq; rw [hin] at this; exact fun a b ha hb => this.all a b ha hb)
              have hni : ¬ (i : Int) < (h.length : Int) := by omega
              have hlm : m1.length ≤ 4096 := by have := HI.out.len; have := HSQ.out; omega
              have HME : Hid (2 * (5000 - m1.length) + flagOf (.bool q) < 2 * (5000 - m.length) + flagOf (.bool true)) := Lib.hid (by
                have := HG.out
                rw [hn0] at this
                cases q <;> simp only [flagOf] at * <;> omega)
              clear HC hin CF
              go_wp2_with fail
              go_roundw
              case rel => exact ⟨m1, q, rfl, hm, HI, HF, HC2, hb⟩
              case measure => exact HME.out
end Go.Proofs.YtecpeegbfeijaaaGreatDoor
