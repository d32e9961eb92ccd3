/- Walks and plain facts that the proof of the statement SearchFuel uses, joined: TblA AxiF PlaA SeaC PlaB AxiG PlaC PlaH PlaI. Conditions: each theorem's own. -/
import Derived.Laws.Tables
import Derived.Laws.CopyOwn
import Derived.Deep.QuietTactic
import Derived.BigQuiet
import Derived.OwnWalk
import Derived.Deep.AppendLies
import Derived.Test.YtecpeegbfeijaaaGreatDoorPSearchFuel3
namespace Go.Proofs.YtecpeegbfeijaaaGreatDoor
set_option maxRecDepth 100000
open Go.RowKit

/-- The array of a row of the levels. -/
def rowB (r : Nat → Bool) : Array Value := ((List.range 12).map fun i => Value.bool (r i)).toArray
theorem rowB_size (r : Nat → Bool) : (rowB r).size = 12 := by simp [rowB]
theorem rowB_at (r : Nat → Bool) {i : Nat} (hi : i < 12) : (rowB r)[i]? = some (.bool (r i)) := by simp [rowB, hi]
def rSet (r : Nat → Bool) (a : Nat) (v : Bool) : Nat → Bool := fun i => if i = a then v else r i
theorem rowB_set (r : Nat → Bool) (a : Nat) (v : Bool) : (rowB r).setIfInBounds a (.bool v) = rowB (rSet r a v) := by
  apply Array.ext_getElem?
  intro i
  by_cases hi : i < 12
  · rw [rowB_at _ hi, Array.getElem?_setIfInBounds]
    unfold rSet
    by_cases e : a = i
    · subst e; simp [rowB_size, hi]
    · rw [if_neg e, rowB_at r hi, if_neg (fun h => e h.symm)]
  · rw [Array.getElem?_eq_none (by rw [Array.size_setIfInBounds, rowB_size]; omega), Array.getElem?_eq_none (by rw [rowB_size]; omega)]
/-- The block that holds a row. -/
def BRow (w : World) (g : Nat) (r : Nat → Bool) : Prop := w.heap[g]? = some (.cells (rowB r) 63 (0, 0))
theorem BRow.cell {w : World} {g : Nat} {r : Nat → Bool} (h : BRow w g r) {i : Nat} (hi : i < 12) : w.cell? ⟨g, i, none⟩ = some (.bool (r i)) := by rw [cell_of_row w g i _ _ _ h, rowB_at r hi]
theorem BRow.free {w : World} {g : Nat} {r : Nat → Bool} (h : BRow w g r) (i : Nat) : w.frozen? ⟨g, i, none⟩ = false := frozen_of_row w g i _ _ h
theorem BRow.lt {w : World} {g : Nat} {r : Nat → Bool} (h : BRow w g r) : g < w.heap.size := by
  by_cases h0 : g < w.heap.size
  · exact h0
  · unfold BRow at h; rw [Array.getElem?_eq_none (Nat.le_of_not_lt h0)] at h; cases h
theorem BRow.below {w w' : World} {g B : Nat} {r : Nat → Bool} (h : BRow w g r) (hb : Below B w w') (hB : g < B) : BRow w' g r := by unfold BRow at *; rw [hb.block g hB, h]
theorem BRow.store {w : World} {g : Nat} {r : Nat → Bool} (h : BRow w g r) (a : Nat) (v : Bool) : BRow (w.setCell ⟨g, a, none⟩ (.bool v)) g (rSet r a v) := by
  unfold BRow at *
  rw [heap_setCell_same w g a _ _ _ h, rowB_set]
theorem BRow.other {w : World} {g : Nat} {r : Nat → Bool} (h : BRow w g r) {k : Addr} (hk : g ≠ k.block) (v : Value) : BRow (w.setCell k v) g r := by unfold BRow at *; rw [heap_setCell_other w k g v hk, h]
theorem BRow.alloc {w : World} {g : Nat} {r : Nat → Bool} (h : BRow w g r) (o : Obj) : BRow (w.alloc o) g r := by
  have hl := BRow.lt h
  unfold BRow at *; rw [Below.heap_alloc w o g hl, h]
theorem BRow.made (w : World) (r : Nat → Bool) {cs : Array Value} {g : Nat} (hg : g = w.heap.size) (hc : cs = rowB r) : BRow (w.alloc (.cells cs 63)) g r := by subst hg hc; exact heap_alloc_new w _
theorem BRow.kept {w w' : World} {g : Nat} {r : Nat → Bool} {row : Option Nat} (h : BRow w g r) (hg : w.grownBy w' row) (hne : some g ≠ row) : BRow w' g r := by
  have hl := BRow.lt h
  have := hg.block g hl hne
  unfold BRow at *
  rw [this, h]
theorem BRow.setRow {w : World} {g : Nat} {r : Nat → Bool} (h : BRow w g r) (s : Nat → Bool) : BRow (w.setRow g (rowB s)) g s := setRow_heap w g _ _ _ _ h
end Go.Proofs.YtecpeegbfeijaaaGreatDoor

namespace Go.Proofs.YtecpeegbfeijaaaGreatDoor
set_option maxRecDepth 100000
open Go.RowKit

theorem lack_iff (a b : Nat) : lackN a b = 0 ↔ ∀ k, a.testBit k = true → b.testBit k = true := by
  unfold lackN
  constructor
  · intro e k hk
    have t := congrArg (fun x => Nat.testBit x k) e
    simp only [Nat.testBit_xor, Nat.testBit_and, Nat.zero_testBit, hk, Bool.true_and] at t
    cases hb : b.testBit k
    · rw [hb] at t; exact absurd t (by decide)
    · rfl
  · intro H
    apply Nat.eq_of_testBit_eq
    intro k
    rw [Nat.testBit_xor, Nat.testBit_and, Nat.zero_testBit]
    cases ha : a.testBit k
    · rfl
    · rw [H k ha]; rfl
end Go.Proofs.YtecpeegbfeijaaaGreatDoor

namespace Go.Proofs.YtecpeegbfeijaaaGreatDoor
set_option maxRecDepth 100000
open Go.RowKit

/-- All that stand in a table by some numbers. -/
def joinL (F : Nat → Nat) (l : List Nat) : Nat := l.foldl (fun s k => s ||| F k) 0
def joinN (F : Nat → Nat) (s : Nat) : Nat := joinL F (lst s)
theorem joinL_nil (F : Nat → Nat) : joinL F [] = 0 := rfl
theorem joinF_bit (F : Nat → Nat) (j : Nat) : ∀ (l : List Nat) (s : Nat), (l.foldl (fun s k => s ||| F k) s).testBit j = (s.testBit j || l.any fun k => (F k).testBit j)
  | [], s => by simp
  | k :: l, s => by rw [List.foldl_cons, joinF_bit F j l, Nat.testBit_or, List.any_cons, Bool.or_assoc]
theorem joinL_bit (F : Nat → Nat) (l : List Nat) (j : Nat) : (joinL F l).testBit j = l.any fun k => (F k).testBit j := by
  unfold joinL; rw [joinF_bit]; simp
theorem joinL_set {F : Nat → Nat} {l : List Nat} (h : ∀ k ∈ l, IsSet (F k)) : IsSet (joinL F l) := by
  apply isSet_of_bits
  intro i hi
  rw [joinL_bit, List.any_eq_false]
  intro k hk
  rw [(h k hk).high hi]; simp
theorem joinN_set {F : Nat → Nat} {s : Nat} (h : ∀ k, k < 64 → IsSet (F k)) : IsSet (joinN F s) := joinL_set fun k hk => h k (mem_lst.1 hk).1
theorem joinN_iff {F : Nat → Nat} {s : Nat} {j : Nat} : (joinN F s).testBit j = true ↔ ∃ k, k < 64 ∧ s.testBit k = true ∧ (F k).testBit j = true := by
  unfold joinN
  rw [joinL_bit, List.any_eq_true]
  exact ⟨fun ⟨k, hk, hj⟩ => ⟨k, (mem_lst.1 hk).1, (mem_lst.1 hk).2, hj⟩, fun ⟨k, h1, h2, h3⟩ => ⟨k, mem_lst.2 ⟨h1, h2⟩, h3⟩⟩
theorem joinN_congr {F G : Nat → Nat} {s : Nat} (h : ∀ k, k < 64 → s.testBit k = true → F k = G k) : joinN F s = joinN G s := by
  apply Nat.eq_of_testBit_eq
  intro j
  rw [Bool.eq_iff_iff, joinN_iff, joinN_iff]
  exact ⟨fun ⟨k, h1, h2, h3⟩ => ⟨k, h1, h2, by rw [← h k h1 h2]; exact h3⟩, fun ⟨k, h1, h2, h3⟩ => ⟨k, h1, h2, by rw [h k h1 h2]; exact h3⟩⟩
/-- Those of a row, the last one first, as a set. -/
def plS : List Nat → Nat
  | [] => 0
  | i :: r => withS (plS r) (i : Int)
theorem plS_set : ∀ r, IsSet (plS r)
  | [] => by unfold plS IsSet; omega
  | i :: r => isSet_withS (plS_set r)
theorem plS_bit (j : Nat) : ∀ (r : List Nat), (∀ i ∈ r, i < 64) → (plS r).testBit j = decide (j ∈ r)
  | [], _ => by unfold plS; simp
  | i :: r, h => by
    have h1 : decide (0 ≤ (i : Int) ∧ (i : Int) < 64) = true := by have := h i (List.mem_cons_self ..); simp; omega
    unfold plS
    rw [testBit_withS, plS_bit j r (fun a ha => h a (List.mem_cons_of_mem _ ha)), h1, Int.toNat_natCast, Bool.true_and, Bool.eq_iff_iff]
    simp only [Bool.or_eq_true, decide_eq_true_eq, List.mem_cons]
    exact ⟨fun q => q.elim .inr (fun e => .inl e.symm), fun q => q.elim (fun e => .inr e.symm) .inl⟩
theorem plS_pop {i : Nat} {r : List Nat} (hi : i ∉ r) (h : ∀ a ∈ i :: r, a < 64) : woS (plS (i :: r)) (i : Int) = plS r := by
  apply Nat.eq_of_testBit_eq
  intro j
  have h1 : decide (0 ≤ (i : Int) ∧ (i : Int) < 64) = true := by have := h i (List.mem_cons_self ..); simp; omega
  rw [testBit_woS, plS_bit j _ h, plS_bit j r (fun a ha => h a (List.mem_cons_of_mem _ ha)), h1, Int.toNat_natCast, Bool.true_and, Bool.eq_iff_iff]
  simp only [Bool.and_eq_true, decide_eq_true_eq, List.mem_cons, Bool.not_eq_true', decide_eq_false_iff_not]
  constructor
  · rintro ⟨rfl | q, hne⟩
    · exact (hne rfl).elim
    · exact q
  · intro q
    exact ⟨.inr q, fun e => hi (by rw [e]; exact q)⟩
/-- Whom one would see, step by step: what it must see, all, who writes to the same key, whom those see, who is ahead of those. -/
def wld1 (b pl C : Nat) : Nat := if C.testBit 4 then b ||| pl else b
def wld2 (b pl rv C : Nat) : Nat := if C.testBit 3 then wld1 b pl C ||| (rv &&& pl) else wld1 b pl C
def wld3 (b pl rv C : Nat) (sF : Nat → Nat) : Nat := if C.testBit 1 then wld2 b pl rv C ||| joinN sF (wld2 b pl rv C) else wld2 b pl rv C
def wld4 (b pl rv C : Nat) (sF aF : Nat → Nat) : Nat := if C.testBit 2 then wld3 b pl rv C sF ||| joinN aF (wld3 b pl rv C sF) else wld3 b pl rv C sF
section
variable {b pl rv C : Nat} {sF aF : Nat → Nat}
theorem wld1_set (hb : IsSet b) (hp : IsSet pl) : IsSet (wld1 b pl C) := by unfold wld1; split; exact isSet_or hb hp; exact hb
theorem wld2_set (hb : IsSet b) (hp : IsSet pl) (hr : IsSet rv) : IsSet (wld2 b pl rv C) := by unfold wld2; split; exact isSet_or (wld1_set hb hp) (isSet_and hr); exact wld1_set hb hp
theorem wld3_set (hb : IsSet b) (hp : IsSet pl) (hr : IsSet rv) (hs : ∀ k, k < 64 → IsSet (sF k)) : IsSet (wld3 b pl rv C sF) := by unfold wld3; split; exact isSet_or (wld2_set hb hp hr) (joinN_set hs); exact wld2_set hb hp hr
theorem wld4_set (hb : IsSet b) (hp : IsSet pl) (hr : IsSet rv) (hs : ∀ k, k < 64 → IsSet (sF k)) (ha : ∀ k, k < 64 → IsSet (aF k)) : IsSet (wld4 b pl rv C sF aF) := by unfold wld4; split; exact isSet_or (wld3_set hb hp hr hs) (joinN_set ha); exact wld3_set hb hp hr hs
/-- Whom one would see is placed, as far as whom it must see is. -/
theorem wld1_in (hb : ∀ j, b.testBit j = true → pl.testBit j = true) {j : Nat} (h : (wld1 b pl C).testBit j = true) : pl.testBit j = true := by
  unfold wld1 at h
  split at h
  · rw [Nat.testBit_or, Bool.or_eq_true] at h; exact h.elim (hb j) id
  · exact hb j h
theorem wld2_in (hb : ∀ j, b.testBit j = true → pl.testBit j = true) {j : Nat} (h : (wld2 b pl rv C).testBit j = true) : pl.testBit j = true := by
  unfold wld2 at h
  split at h
  · rw [Nat.testBit_or, Bool.or_eq_true, Nat.testBit_and, Bool.and_eq_true] at h; exact h.elim (wld1_in hb) And.right
  · exact wld1_in hb h
theorem wld3_in (hb : ∀ j, b.testBit j = true → pl.testBit j = true) (hs : ∀ k j, pl.testBit k = true → (sF k).testBit j = true → pl.testBit j = true) {j : Nat} (h : (wld3 b pl rv C sF).testBit j = true) : pl.testBit j = true := by
  unfold wld3 at h
  split at h
  · rw [Nat.testBit_or, Bool.or_eq_true, joinN_iff] at h
    rcases h with h | ⟨k, _, h1, h2⟩
    · exact wld2_in hb h
    · exact hs k j (wld2_in hb h1) h2
  · exact wld2_in hb h
theorem wld4_in (hb : ∀ j, b.testBit j = true → pl.testBit j = true) (hs : ∀ k j, pl.testBit k = true → (sF k).testBit j = true → pl.testBit j = true) (ha : ∀ k j, pl.testBit k = true → (aF k).testBit j = true → pl.testBit j = true) {j : Nat} (h : (wld4 b pl rv C sF aF).testBit j = true) : pl.testBit j = true := by
  unfold wld4 at h
  split at h
  · rw [Nat.testBit_or, Bool.or_eq_true, joinN_iff] at h
    rcases h with h | ⟨k, _, h1, h2⟩
    · exact wld3_in hb hs h
    · exact ha k j (wld3_in hb hs h1) h2
  · exact wld3_in hb hs h
theorem wld3_congr {sG : Nat → Nat} (hb : ∀ j, b.testBit j = true → pl.testBit j = true) (h : ∀ k, k < 64 → pl.testBit k = true → sF k = sG k) : wld3 b pl rv C sF = wld3 b pl rv C sG := by
  unfold wld3
  rw [joinN_congr fun k hk hb2 => h k hk (wld2_in hb hb2)]
theorem wld4_congr {sG aG : Nat → Nat} (hb : ∀ j, b.testBit j = true → pl.testBit j = true) (h : ∀ k, k < 64 → pl.testBit k = true → sF k = sG k ∧ aF k = aG k) (hs : ∀ k j, pl.testBit k = true → (sF k).testBit j = true → pl.testBit j = true) : wld4 b pl rv C sF aF = wld4 b pl rv C sG aG := by
  have e : wld3 b pl rv C sF = wld3 b pl rv C sG := wld3_congr hb fun k hk hp => (h k hk hp).1
  unfold wld4
  rw [← e, joinN_congr (F := aF) (G := aG) fun k hk hb2 => (h k hk (wld3_in hb hs hb2)).2]
end
/-- What one must see, whatever the order is. -/
def baseN (h : List TxnV) (C i : Nat) : Nat := seeTo (baseM h (C : Int)) (i : Int) 64
theorem baseN_set (h : List TxnV) (C i : Nat) : IsSet (baseN h C i) := seeTo_set _ _ _
/-- Of each of a row, the last one first: who is ahead of it, and whom it sees. -/
def aheadL : List Nat → Nat → Nat
  | [], _ => 0
  | i :: r, k => if k = i then plS r else aheadL r k
def plSee (h : List TxnV) (C : Nat) : List Nat → Nat → Nat
  | [], _ => 0
  | i :: r, k => if k = i then wld4 (baseN h C i) (plS r) (rivN h i) C (plSee h C r) (aheadL r) else plSee h C r k
def nextN (h : List TxnV) (C : Nat) (r : List Nat) (i : Nat) : Nat := wld4 (baseN h C i) (plS r) (rivN h i) C (plSee h C r) (aheadL r)
theorem aheadL_set : ∀ (r : List Nat) (k : Nat), IsSet (aheadL r k)
  | [], _ => by unfold aheadL IsSet; omega
  | i :: r, k => by
    unfold aheadL
    split
    · exact plS_set r
    · exact aheadL_set r k
theorem plSee_set (h : List TxnV) (C : Nat) : ∀ (r : List Nat) (k : Nat), IsSet (plSee h C r k)
  | [], _ => by unfold plSee IsSet; omega
  | i :: r, k => by
    unfold plSee
    split
    · exact wld4_set (baseN_set h C i) (plS_set r) (rivN_set h i) (fun k _ => plSee_set h C r k) (fun k _ => aheadL_set r k)
    · exact plSee_set h C r k
/-- Would one read of a key what the last one wrote that it sees? -/
def readW (h : List TxnV) (aF : Nat → Nat) (seen : Nat) (r : Int × Int) : Nat := if 0 ≤ r.2 then lackN (seen &&& wrtN h r.1) (withS (aF r.2.toNat) r.2) else seen &&& wrtN h r.1
def readP (h : List TxnV) (aF : Nat → Nat) (seen : Nat) (r : Int × Int) : Bool := decide (readW h aF seen r = 0)
def readsP (h : List TxnV) (aF : Nat → Nat) (seen i : Nat) : Bool := (readsOf h i).all (readP h aF seen)
/-- May one come next? -/
def tryP (h : List TxnV) (C : Nat) (r : List Nat) (i : Nat) : Bool := decide (i < h.length) && (!decide (i ∈ r) && (inB (baseN h C i) (plS r) && readsP h (aheadL r) (nextN h C r i) i))
def tryI (h : List TxnV) (C : Nat) (r : List Nat) (i : Int) : Bool := decide (0 ≤ i) && tryP h C r i.toNat
/-- The cells of the block, one by one. -/
def plF (B C : Nat) (vb vr : Value) (pl : Nat) (aF sF : Nat → Nat) (i : Nat) : Value :=
  if i = 0 then .pointer (some ⟨B, 0, none⟩) else if i = 1 then .int .i64 (C : Int) else if i = 2 then vb else if i = 3 then vr else if i = 4 then .int .u64 (pl : Int) else
  if i < 69 then .int .u64 ((aF (i - 5) : Nat) : Int) else .int .u64 ((sF (i - 69) : Nat) : Int)
/-- The block that holds a state. -/
def PlAt (w : World) (S B C : Nat) (vb vr : Value) (pl : Nat) (aF sF : Nat → Nat) : Prop := ∀ i, i < 133 → w.cell? ⟨S, i, none⟩ = some (plF B C vb vr pl aF sF i) ∧ w.frozen? ⟨S, i, none⟩ = false
section
variable {w : World} {S B C : Nat} {vb vr : Value} {pl : Nat} {aF sF : Nat → Nat}
theorem PlAt.lt (h : PlAt w S B C vb vr pl aF sF) : S < w.heap.size := block_lt (h 0 (by omega)).1
theorem PlAt.below {w' : World} {B' : Nat} (h : PlAt w S B C vb vr pl aF sF) (hb : Below B' w w') (hB : S < B') : PlAt w' S B C vb vr pl aF sF := fun i hi => by
  rw [hb.cell (p := ⟨S, i, none⟩) hB, hb.frozen (p := ⟨S, i, none⟩) hB]; exact h i hi
theorem PlAt.grown {w' : World} {row : Option Nat} (h : PlAt w S B C vb vr pl aF sF) (hg : w.grownBy w' row) (hne : some S ≠ row) : PlAt w' S B C vb vr pl aF sF := fun i hi => by
  obtain ⟨h1, h2⟩ := h i hi
  have hb := hg.block S h.lt hne
  have e1 : w'.cell? ⟨S, i, none⟩ = w.cell? ⟨S, i, none⟩ := by simp only [World.cell?]; rw [hb]
  have e2 : w'.frozen? ⟨S, i, none⟩ = w.frozen? ⟨S, i, none⟩ := by simp only [World.frozen?]; rw [hb]
  rw [e1, e2]; exact ⟨h1, h2⟩
theorem PlAt.cO (h : PlAt w S B C vb vr pl aF sF) : w.cell? ⟨S, 0, none⟩ = some (.pointer (some ⟨B, 0, none⟩)) := (h 0 (by omega)).1
theorem PlAt.cC (h : PlAt w S B C vb vr pl aF sF) : w.cell? ⟨S, 1, none⟩ = some (.int .i64 (C : Int)) := (h 1 (by omega)).1
theorem PlAt.cB (h : PlAt w S B C vb vr pl aF sF) : w.cell? ⟨S, 2, none⟩ = some vb := (h 2 (by omega)).1
theorem PlAt.cR (h : PlAt w S B C vb vr pl aF sF) : w.cell? ⟨S, 3, none⟩ = some vr := (h 3 (by omega)).1
theorem PlAt.cP (h : PlAt w S B C vb vr pl aF sF) : w.cell? ⟨S, 4, none⟩ = some (.int .u64 (pl : Int)) := (h 4 (by omega)).1
theorem PlAt.cA (h : PlAt w S B C vb vr pl aF sF) {k : Nat} (hk : k < 64) : w.cell? ⟨S, 5 + k, none⟩ = some (.int .u64 ((aF k : Nat) : Int)) := by
  rw [(h (5 + k) (by omega)).1]; unfold plF
  rw [if_neg (by omega), if_neg (by omega), if_neg (by omega), if_neg (by omega), if_neg (by omega), if_pos (by omega), Nat.add_sub_cancel_left]
theorem PlAt.cS (h : PlAt w S B C vb vr pl aF sF) {k : Nat} (hk : k < 64) : w.cell? ⟨S, 69 + k, none⟩ = some (.int .u64 ((sF k : Nat) : Int)) := by
  rw [(h (69 + k) (by omega)).1]; unfold plF
  rw [if_neg (by omega), if_neg (by omega), if_neg (by omega), if_neg (by omega), if_neg (by omega), if_neg (by omega), Nat.add_sub_cancel_left]
theorem PlAt.free (h : PlAt w S B C vb vr pl aF sF) {i : Nat} (hi : i < 133) : w.frozen? ⟨S, i, none⟩ = false := (h i hi).2
theorem PlAt.put (h : PlAt w S B C vb vr pl aF sF) (k : Nat) (v : Value) {vb' vr' : Value} {pl' : Nat} {aF' sF' : Nat → Nat} (h1 : plF B C vb' vr' pl' aF' sF' k = v)
    (h2 : ∀ i, i < 133 → i ≠ k → plF B C vb' vr' pl' aF' sF' i = plF B C vb vr pl aF sF i) : PlAt (w.setCell ⟨S, k, none⟩ v) S B C vb' vr' pl' aF' sF' := fun i hi => by
  refine ⟨?_, by rw [World.frozen?_setCell]; exact (h i hi).2⟩
  by_cases e : i = k
  · subst e
    rw [World.cell?_setCell_same _ _ _ (h i hi).1, h1]
  · have hne : (⟨S, k, none⟩ : Addr) ≠ ⟨S, i, none⟩ := by
      intro q
      injection q with _ q2
      exact e q2.symm
    rw [World.cell?_setCell_other _ _ _ _ hne, h2 i hi e]
    exact (h i hi).1
theorem PlAt.setB (h : PlAt w S B C vb vr pl aF sF) (v : Value) : PlAt (w.setCell ⟨S, 2, none⟩ v) S B C v vr pl aF sF := h.put 2 v rfl (fun i _ e => by unfold plF; simp [e])
theorem PlAt.setR (h : PlAt w S B C vb vr pl aF sF) (v : Value) : PlAt (w.setCell ⟨S, 3, none⟩ v) S B C vb v pl aF sF := h.put 3 v rfl (fun i _ e => by unfold plF; simp [e])
theorem PlAt.setP (h : PlAt w S B C vb vr pl aF sF) (s : Nat) : PlAt (w.setCell ⟨S, 4, none⟩ (.int .u64 (s : Int))) S B C vb vr s aF sF := h.put 4 _ rfl (fun i _ e => by unfold plF; simp [e])
/-- A table with one number anew. -/
def updN (F : Nat → Nat) (i s : Nat) : Nat → Nat := fun k => if k = i then s else F k
theorem PlAt.setA (h : PlAt w S B C vb vr pl aF sF) {k : Nat} (hk : k < 64) (s : Nat) : PlAt (w.setCell ⟨S, 5 + k, none⟩ (.int .u64 (s : Int))) S B C vb vr pl (updN aF k s) sF := h.put (5 + k) _
  (by unfold plF updN; rw [if_neg (by omega), if_neg (by omega), if_neg (by omega), if_neg (by omega), if_neg (by omega), if_pos (by omega), if_pos (by omega)])
  (fun i _ e => by
    unfold plF updN
    by_cases h5 : i < 5
    · have : i = 0 ∨ i = 1 ∨ i = 2 ∨ i = 3 ∨ i = 4 := by omega
      rcases this with rfl | rfl | rfl | rfl | rfl <;> rfl
    · have : ¬ i - 5 = k := by omega
      simp only [this, if_false])
theorem PlAt.setS (h : PlAt w S B C vb vr pl aF sF) {k : Nat} (hk : k < 64) (s : Nat) : PlAt (w.setCell ⟨S, 69 + k, none⟩ (.int .u64 (s : Int))) S B C vb vr pl aF (updN sF k s) := h.put (69 + k) _
  (by unfold plF updN; rw [if_neg (by omega), if_neg (by omega), if_neg (by omega), if_neg (by omega), if_neg (by omega), if_neg (by omega), if_pos (by omega)])
  (fun i _ e => by
    unfold plF updN
    by_cases h5 : i < 69
    · by_cases h6 : i < 5
      · have : i = 0 ∨ i = 1 ∨ i = 2 ∨ i = 3 ∨ i = 4 := by omega
        rcases this with rfl | rfl | rfl | rfl | rfl <;> rfl
      · simp only [h5, if_true]
    · have : ¬ i - 69 = k := by omega
      simp only [this, if_false])
end
/-- A state: of a history, what is asked, and those that are placed, the last one first. What lay there ahead of it is W. -/
structure PlIs (W : World) (S B b : Nat) (h : List TxnV) (C : Nat) (r : List Nat) (vb vr : Value) (aF sF : Nat → Nat) (w : World) : Prop where
  o : OrdIs W B b h
  t : Tab W
  bel : Below W.heap.size W w
  low : W.heap.size ≤ S
  a : PlAt w S B C vb vr (plS r) aF sF
  ba : w.ownsRow (S + 1) 95 1 vb h.length ((List.range h.length).map fun i => .int .u64 ((baseN h C i : Nat) : Int))
  rw : w.ownsRow (S + 1) 3 1 vr r.length (r.reverse.map fun i : Nat => .int .i64 (i : Int))
  ne : ∀ g, vb.ownBlock = some g → vr.ownBlock ≠ some g
  set : ∀ k, k < 64 → IsSet (aF k) ∧ IsSet (sF k)
  eq : ∀ k ∈ r, aF k = aheadL r k ∧ sF k = plSee h C r k
  nd : r.Nodup
  lt : ∀ k ∈ r, k < h.length
  base : ∀ k ∈ r, ∀ j, (baseN h C k).testBit j = true → (aheadL r k).testBit j = true
/-- A step that changes a state alone, and lays new blocks. -/
structure PlStep (S : Nat) (vr vr' : Value) (w w' : World) : Prop where
  os : w'.os = w.os
  tape : w'.tape = w.tape
  output : w'.output = w.output
  size : w.heap.size ≤ w'.heap.size
  block : ∀ k, k < w.heap.size → k ≠ S → vr.ownBlock ≠ some k → w'.heap[k]? = w.heap[k]?
  own : ∀ g, vr'.ownBlock = some g → vr.ownBlock = some g ∨ w.heap.size ≤ g
theorem PlStep.of_below {S : Nat} {vr : Value} {w w' : World} (hb : Below w.heap.size w w') : PlStep S vr vr w w' := ⟨hb.os, hb.tape, hb.output, hb.size, fun k hk _ _ => hb.block k hk, fun _ hg => .inl hg⟩
theorem PlStep.refl (S : Nat) (vr : Value) (w : World) : PlStep S vr vr w w := .of_below (Below.refl _ _)
theorem PlStep.trans {S : Nat} {v1 v2 v3 : Value} {w1 w2 w3 : World} (h : PlStep S v1 v2 w1 w2) (k : PlStep S v2 v3 w2 w3) : PlStep S v1 v3 w1 w3 := by
  refine ⟨k.os.trans h.os, k.tape.trans h.tape, k.output.trans h.output, Nat.le_trans h.size k.size, fun j hj hs hv => ?_, fun g hg => ?_⟩
  · refine (k.block j (Nat.lt_of_lt_of_le hj h.size) hs (fun e => ?_)).trans (h.block j hj hs hv)
    rcases h.own j e with q | q
    · exact hv q
    · omega
  · rcases k.own g hg with q | q
    · exact h.own g q
    · exact .inr (Nat.le_trans h.size q)
/-- A slice apart from a state. -/
def RowX (S : Nat) (vr : Value) (w : World) (v : Value) (n size : Nat) (cs : List Value) : Prop := Row w v n size cs ∧ (0 < n → 0 < size → ∀ g, v.ownBlock = some g → g ≠ S ∧ vr.ownBlock ≠ some g)
theorem RowX.step {S : Nat} {v1 v2 : Value} {w w' : World} {v : Value} {n size : Nat} {cs : List Value} (h : RowX S v1 w v n size cs) (hs : 0 < size) (k : PlStep S v1 v2 w w') : RowX S v2 w' v n size cs := by
  obtain ⟨⟨hl, ao, cap, rfl, hm, hno, hc⟩, hx⟩ := h
  refine ⟨⟨hl, ao, cap, rfl, hm, hno, fun hn => ?_⟩, fun hn h0 g hg => ?_⟩
  · obtain ⟨b, off, rfl, hcell⟩ := hc hn
    obtain ⟨x1, x2⟩ := hx hn hs b rfl
    refine ⟨b, off, rfl, fun i hi => ?_⟩
    have h1 := hcell i hi
    have h2 : cs[i]? = some cs[i] := List.getElem?_eq_getElem (by omega)
    have hlt := block_lt (h1.trans h2)
    rw [← h1]
    show w'.cell? _ = w.cell? _
    simp only [World.cell?]
    rw [k.block b hlt x1 x2]
  · obtain ⟨b, off, rfl, hcell⟩ := hc hn
    obtain rfl : b = g := by injection hg
    obtain ⟨x1, x2⟩ := hx hn hs b rfl
    have hpos : 0 < n * size := Nat.mul_pos hn hs
    have h1 := hcell 0 hpos
    have h2 : cs[0]? = some cs[0] := List.getElem?_eq_getElem (by omega)
    have hlt := block_lt (h1.trans h2)
    refine ⟨x1, fun e => ?_⟩
    rcases k.own b e with q | q
    · exact x2 q
    · have : b < w.heap.size := hlt
      omega
section
variable {W : World} {S B b : Nat} {h : List TxnV} {C : Nat} {r : List Nat} {vb vr : Value} {aF sF : Nat → Nat} {w w' : World}
theorem pl_far {base : Nat} {e : TypeId} {size n : Nat} {v : Value} {xs : List Value} (hr : w.ownsRow base e size v n xs) {p : Addr} (hp : p.block < base) (u : Value) : (w.setCell p u).ownsRow base e size v n xs :=
  ownsRow_setCell_other hr (fun e => by have := (hr.lt _ e).1; omega) u
theorem PlIs.below (p : PlIs W S B b h C r vb vr aF sF w) (hb : Below w.heap.size w w') : PlIs W S B b h C r vb vr aF sF w' :=
  ⟨p.o, p.t, p.bel.trans (hb.mono p.bel.size), p.low, p.a.below hb p.a.lt, owns_below p.ba hb, owns_below p.rw hb, p.ne, p.set, p.eq, p.nd, p.lt, p.base⟩
theorem PlIs.ord (p : PlIs W S B b h C r vb vr aF sF w) : OrdIs w B b h := p.o.below p.bel
theorem PlIs.tab (p : PlIs W S B b h C r vb vr aF sF w) : Tab w := p.t.below p.bel (p.t.pos)
/-- All that are ahead of one, and all that it sees, are placed. -/
theorem ahead_in {r : List Nat} (hlt : ∀ k ∈ r, k < 64) : ∀ {k j : Nat}, (aheadL r k).testBit j = true → (plS r).testBit j = true := by
  induction r with
  | nil => intro k j hj; unfold aheadL at hj; simp at hj
  | cons i r ih =>
    intro k j hj
    have hlt' : ∀ a ∈ r, a < 64 := fun a ha => hlt a (List.mem_cons_of_mem _ ha)
    have : (plS r).testBit j = true := by
      unfold aheadL at hj
      split at hj
      · exact hj
      · exact ih hlt' hj
    rw [plS_bit j _ hlt', decide_eq_true_eq] at this
    rw [plS_bit j _ hlt, decide_eq_true_eq]
    exact List.mem_cons_of_mem _ this
theorem base_tail {i : Nat} (hi : i ∉ r) (hb : ∀ k ∈ i :: r, ∀ j, (baseN h C k).testBit j = true → (aheadL (i :: r) k).testBit j = true) : (∀ k ∈ r, ∀ j, (baseN h C k).testBit j = true → (aheadL r k).testBit j = true) ∧ ∀ j, (baseN h C i).testBit j = true → (plS r).testBit j = true := by
  constructor
  · intro k hk j hj
    have := hb k (List.mem_cons_of_mem _ hk) j hj
    unfold aheadL at this
    rwa [if_neg (fun e => hi (by rw [← e]; exact hk))] at this
  · intro j hj
    have := hb i (List.mem_cons_self ..) j hj
    unfold aheadL at this
    rwa [if_pos rfl] at this
/-- Whom one sees is ahead of it. -/
theorem sees_ahead {r : List Nat} (hlt : ∀ k ∈ r, k < 64) (hnd : r.Nodup) (hb : ∀ k ∈ r, ∀ j, (baseN h C k).testBit j = true → (aheadL r k).testBit j = true) : ∀ {k j : Nat}, (plSee h C r k).testBit j = true → (aheadL r k).testBit j = true := by
  induction r with
  | nil => intro k j hj; unfold plSee at hj; simp at hj
  | cons i r ih =>
    intro k j hj
    have hlt' : ∀ a ∈ r, a < 64 := fun a ha => hlt a (List.mem_cons_of_mem _ ha)
    obtain ⟨hi, hnd'⟩ := List.nodup_cons.1 hnd
    obtain ⟨hb', hbi⟩ := base_tail hi hb
    unfold plSee at hj
    unfold aheadL
    split at hj
    · rename_i e
      rw [if_pos e]
      exact wld4_in hbi (fun k j _ hj => ahead_in hlt' (ih hlt' hnd' hb' hj)) (fun k j _ hj => ahead_in hlt' hj) hj
    · rename_i e
      rw [if_neg e]
      exact ih hlt' hnd' hb' hj
end
end Go.Proofs.YtecpeegbfeijaaaGreatDoor

namespace Go.Proofs.YtecpeegbfeijaaaGreatDoor
set_option maxRecDepth 100000
open Go.RowKit

/-- A state; what it hangs on lay there in w0. -/
def PlX (w0 : World) (N S B b : Nat) (h : List TxnV) (C : Nat) (r : List Nat) (vb vr : Value) (aF sF : Nat → Nat) (w : World) : Prop :=
  ∃ W, Below w0.heap.size w0 W ∧ W.heap.size = N ∧ PlIs W S B b h C r vb vr aF sF w
/-- From one world to a later one blocks of Q alone are changed. -/
structure ApartQ (Q : Nat → Prop) (w w' : World) : Prop where
  os : w'.os = w.os
  tape : w'.tape = w.tape
  output : w'.output = w.output
  size : w.heap.size ≤ w'.heap.size
  block : ∀ k, k < w.heap.size → ¬ Q k → w'.heap[k]? = w.heap[k]?
theorem ApartQ.of_grown {w w' : World} {T : Nat} (hg : w.grownBy w' (some T)) : ApartQ (fun k => k = T) w w' := ⟨hg.os, hg.tape, hg.output, hg.size, fun k hk hn => hg.block k hk fun e => hn (by injection e)⟩
theorem ApartQ.of_step {S : Nat} {vr vr' : Value} {w w' : World} (k : PlStep S vr vr' w w') : ApartQ (fun x => x = S ∨ vr.ownBlock = some x) w w' := ⟨k.os, k.tape, k.output, k.size, fun x hx hn => k.block x hx (fun e => hn (.inl e)) (fun e => hn (.inr e))⟩
theorem ApartQ.of_below {Q : Nat → Prop} {w w' : World} (hb : Below w.heap.size w w') : ApartQ Q w w' := ⟨hb.os, hb.tape, hb.output, hb.size, fun k hk _ => hb.block k hk⟩
theorem own_block {w w' : World} {base : Nat} {e : TypeId} {size n : Nat} {v : Value} {xs : List Value} (h : w.ownsRow base e size v n xs) (hg : ∀ g, v.ownBlock = some g → w'.heap[g]? = w.heap[g]?) : w'.ownsRow base e size v n xs := by
  refine ⟨h.1, ?_⟩
  rcases h.2 with hn | ⟨g, cap, cur, rfl, hb, hgg, rest⟩
  · exact .inl hn
  · exact .inr ⟨g, cap, cur, rfl, hb, (hg g rfl).trans hgg, rest⟩
section
variable {w0 W w w' : World} {N S B b T : Nat} {h : List TxnV} {C : Nat} {r : List Nat} {vb vr : Value} {aF sF : Nat → Nat}
theorem PlX.below (p : PlX w0 N S B b h C r vb vr aF sF w) (hb : Below w.heap.size w w') : PlX w0 N S B b h C r vb vr aF sF w' := by
  obtain ⟨W, h1, h2, q⟩ := p; exact ⟨W, h1, h2, q.below hb⟩
theorem PlX.lowS (p : PlX w0 N S B b h C r vb vr aF sF w) : N ≤ S ∧ S < w.heap.size ∧ w0.heap.size ≤ N := by
  obtain ⟨W, h1, h2, q⟩ := p; rw [← h2]; exact ⟨q.low, q.a.lt, h1.size⟩
theorem PlX.own (p : PlX w0 N S B b h C r vb vr aF sF w) : (∀ g, vb.ownBlock = some g → S < g ∧ g < w.heap.size) ∧ ∀ g, vr.ownBlock = some g → S < g ∧ g < w.heap.size := by
  obtain ⟨W, h1, h2, q⟩ := p
  exact ⟨fun g hg => q.ba.lt g hg, fun g hg => q.rw.lt g hg⟩
/-- Other blocks are changed. -/
theorem PlX.apart (p : PlX w0 N S B b h C r vb vr aF sF w) (hO : OrdIs w0 B b h) (ht : Tab w0) {Q : Nat → Prop} (hg : ApartQ Q w w') (h0 : ∀ k, Q k → w0.heap.size ≤ k) (hS : ¬ Q S) (hvb : ∀ g, vb.ownBlock = some g → ¬ Q g) (hvr : ∀ g, vr.ownBlock = some g → ¬ Q g) : PlX w0 N S B b h C r vb vr aF sF w' := by
  obtain ⟨W, h1, rfl, q⟩ := p
  have hSl := q.a.lt
  have hlow := q.low
  have hws := q.bel.size
  have hgs := hg.size
  have hsz : (w'.heap.extract 0 W.heap.size).size = W.heap.size := by simp; omega
  have hget : ∀ k, k < W.heap.size → (w'.heap.extract 0 W.heap.size)[k]? = w'.heap[k]? := fun k hk => by
    rw [Array.getElem?_extract]; simp; omega
  have hB : Below w0.heap.size w0 { W with heap := w'.heap.extract 0 W.heap.size } := by
    refine ⟨h1.os, h1.tape, h1.output, ?_, fun k hk => ?_⟩
    · show w0.heap.size ≤ (w'.heap.extract 0 W.heap.size).size
      rw [hsz]; exact h1.size
    · have hkW : k < W.heap.size := Nat.lt_of_lt_of_le hk h1.size
      show (w'.heap.extract 0 W.heap.size)[k]? = _
      rw [hget k hkW, hg.block k (by omega) (fun e => by have := h0 k e; omega), q.bel.block k hkW]
      exact h1.block k hk
  refine ⟨{ W with heap := w'.heap.extract 0 W.heap.size }, hB, hsz, hO.below hB, ht.below hB ht.pos, ?_, ?_, ?_, ?_, ?_, q.ne, q.set, q.eq, q.nd, q.lt, q.base⟩
  · refine ⟨hg.os.trans q.bel.os, hg.tape.trans q.bel.tape, hg.output.trans q.bel.output, ?_, fun k hk => ?_⟩
    · show (w'.heap.extract 0 W.heap.size).size ≤ _
      rw [hsz]; omega
    · have hk : k < W.heap.size := by rw [← hsz]; exact hk
      exact (hget k hk).symm
  · show (w'.heap.extract 0 W.heap.size).size ≤ S
    rw [hsz]; exact hlow
  · intro i hi
    obtain ⟨a1, a2⟩ := q.a i hi
    have hb := hg.block S hSl hS
    exact ⟨(World.cell?_of_block (a := ⟨S, i, none⟩) hb).trans a1, (World.frozen?_of_block (a := ⟨S, i, none⟩) hb).trans a2⟩
  · exact own_block q.ba fun g e => hg.block g (q.ba.lt g e).2 (hvb g e)
  · exact own_block q.rw fun g e => hg.block g (q.rw.lt g e).2 (hvr g e)
end
end Go.Proofs.YtecpeegbfeijaaaGreatDoor

namespace Go.Proofs.YtecpeegbfeijaaaGreatDoor
set_option maxRecDepth 100000
open Go.RowKit

section
variable {W : World} {S B b : Nat} {h : List TxnV} {C : Nat} {r : List Nat} {vb vr : Value} {aF sF : Nat → Nat} {w : World}
set_option maxHeartbeats 4000000 in
theorem pasks_any (p : PlIs W S B b h C r vb vr aF sF w) : Calls Tryz.prog 148 #[.pointer (some ⟨S, 0, none⟩)] w fun e w' => e = .returned (.int .i64 (C : Int)) ∧ w = w' := by
  have h1 := p.a.cC
  clear p
  go_enter Tryz.func148, Tryz.ntmps148
  go_wp2_with fail
  go_ret
  exact ⟨rfl, rfl⟩
set_option maxHeartbeats 4000000 in
theorem pplaced_any (p : PlIs W S B b h C r vb vr aF sF w) : Calls Tryz.prog 99 #[.pointer (some ⟨S, 0, none⟩)] w fun e w' => e = .returned (.int .u64 ((plS r : Nat) : Int)) ∧ w = w' := by
  have h1 := p.a.cP
  clear p
  generalize plS r = s at *
  go_enter Tryz.func99, Tryz.ntmps99
  go_wp2_with fail
  go_ret
  exact ⟨rfl, rfl⟩
theorem PlIs.row (p : PlIs W S B b h C r vb vr aF sF w) : Ints w vr (r.reverse.map Int.ofNat) := by
  have h1 := Row.of_owns p.rw
  unfold Ints
  rw [List.map_map]
  have : (Value.int IntKind.i64 ∘ Int.ofNat) = fun i : Nat => Value.int .i64 (i : Int) := rfl
  rw [this, List.length_map, List.length_reverse]
  exact h1
theorem PlIs.form (p : PlIs W S B b h C r vb vr aF sF w) : ∃ ao cap, vr = .slice ao r.length cap := by
  obtain ⟨ao, cap, e, _⟩ := p.row.form
  rw [List.length_map, List.length_reverse] at e
  exact ⟨ao, cap, e⟩
theorem nodup_len : ∀ (n : Nat) (l : List Nat), l.Nodup → (∀ k ∈ l, k < n) → l.length ≤ n
  | 0, [], _, _ => Nat.le_refl _
  | 0, k :: l, _, h => absurd (h k (List.mem_cons_self ..)) (by omega)
  | n + 1, l, hn, h => by
    by_cases hm : n ∈ l
    · have h1 := nodup_len n (l.erase n) (hn.erase n) (fun k hk => by
        have := (hn.mem_erase_iff).1 hk
        have := h k this.2
        omega)
      have h2 := List.length_erase_of_mem hm
      have h3 := List.length_pos_of_mem hm
      omega
    · have := nodup_len n l hn (fun k hk => by
        have := h k hk
        have : k ≠ n := fun e => hm (by rw [← e]; exact hk)
        omega)
      omega
theorem PlIs.len (p : PlIs W S B b h C r vb vr aF sF w) : r.length ≤ h.length := nodup_len _ _ p.nd p.lt
set_option maxHeartbeats 4000000 in
theorem pdone_any (p : PlIs W S B b h C r vb vr aF sF w) : Calls Tryz.prog 50 #[.pointer (some ⟨S, 0, none⟩)] w fun e w' => e = .returned (.bool (decide (r.length = h.length))) ∧ Below w.heap.size w w' := by
  have h1 := p.a.cR
  have h0 := p.a.cO
  have h2 := p.ord.blk.cN
  obtain ⟨ao, cap, rfl⟩ := p.form
  have HE : Hid ((((r.length : Int) == (h.length : Int)) : Bool) = decide (r.length = h.length)) := Lib.hid (by
    rw [Bool.eq_iff_iff, beq_iff_eq, decide_eq_true_eq]; omega)
  generalize decide (r.length = h.length) = x at *
  clear p
  go_enter Tryz.func50, Tryz.ntmps50
  go_wp2_with fail
  go_quiet (fail)
  go_wp2_with fail
  go_ret
  exact ⟨ret_b HE.out, below_drewN (Below.refl _ _) _⟩
/-- Whom one sees, as it is asked. -/
def plSeeI (h : List TxnV) (C : Nat) (r : List Nat) (i : Int) : Nat := if hasB (plS r) i then plSee h C r i.toNat else 0
set_option maxHeartbeats 4000000 in
theorem psees_any (i : Int) (p : PlIs W S B b h C r vb vr aF sF w) (h64 : h.length ≤ 64) : Calls Tryz.prog 131 #[.pointer (some ⟨S, 0, none⟩), .int .i64 i] w fun e w' => e = .returned (.int .u64 ((plSeeI h C r i : Nat) : Int)) ∧ w = w' := by
  have h1 := p.a.cP
  have hset := plS_set r
  have hlt64 : ∀ k ∈ r, k < 64 := fun k hk => by have := p.lt k hk; omega
  have CH := Lib.hid (fun wx => has_any (plS r) i wx hset)
  cases hh : hasB (plS r) i with
  | false =>
    have HV : Hid ((0 : Int) = ((plSeeI h C r i : Nat) : Int)) := Lib.hid (by unfold plSeeI; rw [hh]; rfl)
    rw [hh] at CH
    clear hh hset p
    generalize plS r = s at *
    go_enter Tryz.func131, Tryz.ntmps131
    go_wp2_with fail
    refine (CH.out _).mono ?_
    rintro e w1 ⟨rfl, rfl⟩
    go_wp2_with fail
    go_ret
    exact ⟨ret_i HV.out, rfl⟩
  | true =>
    have hb2 := hh
    unfold hasB at hb2
    rw [Bool.and_eq_true, decide_eq_true_eq] at hb2
    obtain ⟨⟨hi0, hi64⟩, hb2⟩ := hb2
    obtain ⟨k, rfl⟩ := Int.eq_ofNat_of_zero_le hi0
    rw [Int.toNat_natCast] at hb2
    have hk64 : k < 64 := by omega
    have hkr : k ∈ r := by rw [plS_bit k r hlt64, decide_eq_true_eq] at hb2; exact hb2
    have h3 := p.a.cS hk64
    rw [(p.eq k hkr).2] at h3
    have HV : Hid (((plSee h C r k : Nat) : Int) = ((plSeeI h C r (k : Int) : Nat) : Int)) := Lib.hid (by unfold plSeeI; rw [hh]; rfl)
    rw [hh] at CH
    clear hh hset p hb2 hkr hlt64
    generalize plS r = s at *
    generalize plSee h C r k = y at *
    go_enter Tryz.func131, Tryz.ntmps131
    go_wp2_with fail
    refine (CH.out _).mono ?_
    rintro e w1 ⟨rfl, rfl⟩
    go_wp2_with fail
    go_ret
    exact ⟨ret_i HV.out, rfl⟩
end
theorem joinF_fold (F : Nat → Nat) : ∀ (l : List Nat) (s : Nat), l.foldl (fun s k => s ||| F k) s = s ||| joinL F l
  | [], s => by rw [joinL_nil]; simp
  | k :: l, s => by
    have e : joinL F (k :: l) = F k ||| joinL F l := by
      show l.foldl _ (0 ||| F k) = _
      rw [joinF_fold F l, Nat.zero_or]
    rw [List.foldl_cons, joinF_fold F l, e, Nat.or_assoc]
theorem joinN_step {F : Nat → Nat} {c : Nat} (hne : lst c ≠ []) (a : Nat) : a ||| joinN F c = (a ||| F (fst c)) ||| joinN F (woS c (fst c : Int)) := by
  have e : lst c = fst c :: lst (woS c (fst c : Int)) := by
    have := lst_step (S := c) (c := c) (acc := []) (by simp) hne
    simpa using this
  unfold joinN
  rw [e]
  show a ||| (lst (woS c (fst c : Int))).foldl _ (0 ||| F (fst c)) = _
  rw [joinF_fold, Nat.zero_or, Nat.or_assoc]
set_option maxHeartbeats 8000000 in
theorem joined_any (S o : Nat) (F : Nat → Nat) (s : Nat) (w : World) (hs : IsSet s) (hF : ∀ k, k < 64 → IsSet (F k)) (hcell : ∀ k, k < 64 → w.cell? ⟨S, o + k, none⟩ = some (.int .u64 ((F k : Nat) : Int))) (ht : Tab w) :
    Calls Tryz.prog 180 #[.int .u64 (s : Int), .pointer (some ⟨S, o, none⟩)] w fun e w' => e = .returned (.int .u64 ((joinN F s : Nat) : Int)) ∧ Below w.heap.size w w' := by
  have HT := Lib.hid (fun wx (hx : Below w.heap.size w wx) => ht.below hx ht.pos)
  have HC := Lib.hid (fun wx (hx : Below w.heap.size w wx) k (hk : k < 64) => (hx.cell (p := ⟨S, o + k, none⟩) (block_lt (hcell k hk))).trans (hcell k hk))
  have HF := Lib.hid hF
  have HV : Hid (joinN F s = 0 ||| joinN F s) := Lib.hid (Nat.zero_or _).symm
  clear hcell ht hF
  go_enter Tryz.func180, Tryz.ntmps180
  go_wp2_with fail
  go_loopw [0, 5] (fun v x wr => ∃ c a : Nat, IsSet c ∧ IsSet a ∧ v = .int .u64 (c : Int) ∧ x = .int .u64 (a : Int) ∧ Hid (joinN F s = a ||| joinN F c) ∧ Below w.heap.size w wr)
    (fun v _ _ => (lst (intOf v).toNat).length)
  case atStart => exact ⟨s, 0, hs, by unfold IsSet; omega, rfl, rfl, HV, Below.refl _ _⟩
  case round =>
    clear HV
    obtain ⟨c, a, hc, ha, rfl, rfl, HJ, hb⟩ := hrel
    rcases Nat.eq_zero_or_pos c with h0 | h0
    · subst h0
      have HR : Hid (((a : Nat) : Int) = ((joinN F s : Nat) : Int)) := Lib.hid (by rw [HJ.out]; unfold joinN; rw [lst_zero, joinL_nil, Nat.or_zero])
      go_wp2_with fail
      go_ret
      exact ⟨ret_i HR.out, hb⟩
    · have hne := lst_ne hc h0
      have h0i : ((c : Int) != 0) = true := by rw [bne_iff_ne]; omega
      have hwo := isSet_woS (n := (fst c : Int)) hc
      have hfl : fst c < 64 := fst_lt hne
      have HN : Hid (joinN F s = (a ||| F (fst c)) ||| joinN F (woS c (fst c : Int))) := Lib.hid (by rw [HJ.out, joinN_step hne])
      have HD := Lib.hid (lst_less hne)
      have hff := HF.out _ hfl
      have hor := isSet_or ha hff
      have HOR : Hid (Go.bits .or .u64 (a : Int) ((F (fst c) : Nat) : Int) = ((a ||| F (fst c) : Nat) : Int)) := Lib.hid (Go.bits_or_u64_nat _ _ ha hff)
      have CF := Lib.hid (fun n => (first_any c (wr.drewN n) hc (HT.out _ (below_drewN hb n))).mono fun _ _ h => And.intro h.1 h.2.symm)
      have CF2 := Lib.hid (fun wx (hx : Below w.heap.size w wx) => first_any c wx hc (HT.out _ hx))
      have CW := Lib.hid (fun wx => wo_any c (fst c : Int) wx hc)
      have hcell := HC.out _ hb _ hfl
      generalize woS c (fst c : Int) = c2 at *
      generalize F (fst c) = y at *
      generalize fst c = f at *
      have hfi : (f : Int) < 64 := by omega
      clear hne HJ h0
      go_wp2_with fail
      go_quiet ((go_at_call 165; exact Calls.quiet_of_same (CF.out _)))
      rw [HOR.out]
      have hb2 := below_drewN hb nq
      generalize wr.drewN nq = w2 at *
      go_wp2_with (first
        | (go_at_call 165; refine (CF2.out _ hb2).mono ?_; rintro e w' ⟨rfl, rfl⟩)
        | (go_at_call 153; refine (CW.out _).mono ?_; rintro e w' ⟨rfl, rfl⟩))
      go_roundw
      case rel => exact ⟨c2, a ||| y, hwo, hor, rfl, rfl, HN, hb2⟩
      case measure => simp only [intOf, Int.toNat_natCast]; exact HD.out
end Go.Proofs.YtecpeegbfeijaaaGreatDoor

namespace Go.Proofs.YtecpeegbfeijaaaGreatDoor
set_option maxRecDepth 100000
open Go.RowKit

section
variable {b pl rv C : Nat} {sF aF : Nat → Nat}
theorem wld2_up {j : Nat} (h : (wld1 b pl C).testBit j = true) : (wld2 b pl rv C).testBit j = true := by
  unfold wld2; split
  · rw [Nat.testBit_or, h]; rfl
  · exact h
theorem wld3_up {j : Nat} (h : (wld2 b pl rv C).testBit j = true) : (wld3 b pl rv C sF).testBit j = true := by
  unfold wld3; split
  · rw [Nat.testBit_or, h]; rfl
  · exact h
theorem wld4_up {j : Nat} (h : (wld3 b pl rv C sF).testBit j = true) : (wld4 b pl rv C sF aF).testBit j = true := by
  unfold wld4; split
  · rw [Nat.testBit_or, h]; rfl
  · exact h
theorem wld4_all {j : Nat} (hc : C.testBit 4 = true) (h : pl.testBit j = true) : (wld4 b pl rv C sF aF).testBit j = true := by
  refine wld4_up (wld3_up (wld2_up ?_))
  unfold wld1
  rw [if_pos hc, Nat.testBit_or, h, Bool.or_true]
end
/-- A row, the last one first, of those each of which must see none but those ahead of it. -/
structure RowG (h : List TxnV) (C : Nat) (r : List Nat) : Prop where
  nd : r.Nodup
  lt : ∀ k ∈ r, k < 64
  base : ∀ k ∈ r, ∀ j, (baseN h C k).testBit j = true → (aheadL r k).testBit j = true
section
variable {h : List TxnV} {C : Nat}
theorem RowG.tail {i : Nat} {r : List Nat} (g : RowG h C (i :: r)) : RowG h C r :=
  ⟨(List.nodup_cons.1 g.nd).2, fun k hk => g.lt k (List.mem_cons_of_mem _ hk), (base_tail (List.nodup_cons.1 g.nd).1 g.base).1⟩
theorem RowG.head {i : Nat} {r : List Nat} (g : RowG h C (i :: r)) : ∀ j, (baseN h C i).testBit j = true → (plS r).testBit j = true := (base_tail (List.nodup_cons.1 g.nd).1 g.base).2
theorem aheadL_tail {i k : Nat} {r : List Nat} (hne : k ≠ i) : aheadL (i :: r) k = aheadL r k := by rw [aheadL, if_neg hne]
theorem plSee_tail {i k : Nat} {r : List Nat} (hne : k ≠ i) : plSee h C (i :: r) k = plSee h C r k := by rw [plSee, if_neg hne]
theorem plS_mem {r : List Nat} (hlt : ∀ k ∈ r, k < 64) {j : Nat} (hj : (plS r).testBit j = true) : j ∈ r := by rw [plS_bit j r hlt, decide_eq_true_eq] at hj; exact hj
theorem aheadL_mem {r : List Nat} (hlt : ∀ k ∈ r, k < 64) {k j : Nat} (hj : (aheadL r k).testBit j = true) : j ∈ r := plS_mem hlt (ahead_in hlt hj)
theorem aheadL_trans : ∀ {r : List Nat}, r.Nodup → (∀ k ∈ r, k < 64) → ∀ {k m j : Nat}, (aheadL r k).testBit m = true → (aheadL r m).testBit j = true → (aheadL r k).testBit j = true
  | [], _, _, k, m, j, h1, _ => by unfold aheadL at h1; simp at h1
  | i :: r, hnd, hlt, k, m, j, h1, h2 => by
    obtain ⟨hi, hnd'⟩ := List.nodup_cons.1 hnd
    have hlt' : ∀ a ∈ r, a < 64 := fun a ha => hlt a (List.mem_cons_of_mem _ ha)
    by_cases e : k = i
    · subst e
      rw [aheadL, if_pos rfl] at h1 ⊢
      have hm := plS_mem hlt' h1
      rw [aheadL_tail (fun e => hi (by rw [← e]; exact hm))] at h2
      exact ahead_in hlt' h2
    · rw [aheadL_tail e] at h1 ⊢
      have hm := aheadL_mem hlt' h1
      rw [aheadL_tail (fun e => hi (by rw [← e]; exact hm))] at h2
      exact aheadL_trans hnd' hlt' h1 h2
/-- Whom one sees, by the whole row. -/
theorem sees_fix : ∀ {r : List Nat}, RowG h C r → ∀ k, k ∈ r → plSee h C r k = wld4 (baseN h C k) (aheadL r k) (rivN h k) C (plSee h C r) (aheadL r)
  | [], _, k, hk => by cases hk
  | i :: r, g, k, hk => by
    obtain ⟨hi, hnd'⟩ := List.nodup_cons.1 g.nd
    have gt := g.tail
    have hS : ∀ k j, (plSee h C r k).testBit j = true → (plS r).testBit j = true := fun k j hj => ahead_in gt.lt (sees_ahead gt.lt gt.nd gt.base hj)
    by_cases e : k = i
    · subst e
      rw [show aheadL (k :: r) k = plS r by rw [aheadL, if_pos rfl]]
      conv => lhs; rw [plSee, if_pos rfl]
      refine wld4_congr g.head (fun m hm hp => ?_) (fun m j _ => hS m j)
      have hne : m ≠ k := fun e => hi (by rw [← e]; exact plS_mem gt.lt hp)
      rw [plSee_tail hne, aheadL_tail hne]; exact ⟨rfl, rfl⟩
    · have hkr : k ∈ r := by rcases List.mem_cons.1 hk with q | q; exact (e q).elim; exact q
      rw [plSee_tail e, aheadL_tail e, sees_fix gt k hkr]
      refine wld4_congr (gt.base k hkr) (fun m hm hp => ?_) (fun m j hp hj => aheadL_trans gt.nd gt.lt hp (sees_ahead gt.lt gt.nd gt.base hj))
      have hne : m ≠ i := fun e => hi (by rw [← e]; exact aheadL_mem gt.lt hp)
      rw [plSee_tail hne, aheadL_tail hne]; exact ⟨rfl, rfl⟩
end
end Go.Proofs.YtecpeegbfeijaaaGreatDoor

namespace Go.Proofs.YtecpeegbfeijaaaGreatDoor
set_option maxRecDepth 100000
open Go.RowKit

theorem heap_set_far (w : World) (p : Addr) (u : Value) (k : Nat) (hk : k ≠ p.block) : (w.setCell p u).heap[k]? = w.heap[k]? := Below.heap_setCell w p u k (fun e => hk e)
theorem PlStep.setCell {S : Nat} {v1 v2 : Value} {w w' : World} (h : PlStep S v1 v2 w w') (o : Nat) (u : Value) : PlStep S v1 v2 w (w'.setCell ⟨S, o, none⟩ u) := by
  refine ⟨h.os, h.tape, h.output, by have := h.size; simpa using this, fun k hk hs hv => ?_, h.own⟩
  rw [heap_set_far w' ⟨S, o, none⟩ u k hs]
  exact h.block k hk hs hv
theorem PlStep.below {S : Nat} {v1 v2 : Value} {w w' w'' : World} (h : PlStep S v1 v2 w w') (hb : Below w'.heap.size w' w'') : PlStep S v1 v2 w w'' := h.trans (.of_below hb)
theorem PlStep.grown {S : Nat} {v1 v2 v3 : Value} {w w' w'' : World} (h : PlStep S v1 v2 w w') (hg : w'.grownBy w'' v2.ownBlock) (ho : ∀ g, v3.ownBlock = some g → v2.ownBlock = some g ∨ g = w'.heap.size) : PlStep S v1 v3 w w'' := by
  refine ⟨hg.os.trans h.os, hg.tape.trans h.tape, hg.output.trans h.output, Nat.le_trans h.size hg.size, fun k hk hs hv => ?_, fun g hgo => ?_⟩
  · refine (hg.block k (Nat.lt_of_lt_of_le hk h.size) (fun e => ?_)).trans (h.block k hk hs hv)
    rcases h.own k e.symm with q | q
    · exact hv q
    · omega
  · rcases ho g hgo with q | q
    · exact h.own g q
    · exact .inr (by have := h.size; omega)
theorem PlStep.as {S : Nat} {v1 v2 v3 : Value} {w w' : World} (h : PlStep S v1 v2 w w') (e : v3.ownBlock = v2.ownBlock) : PlStep S v1 v3 w w' := ⟨h.os, h.tape, h.output, h.size, h.block, fun g hg => h.own g (by rw [← e]; exact hg)⟩
theorem owns_less {w : World} {base n cap : Nat} {e : TypeId} {ao : Option Addr} {xs : List Value} {x : Value} (h : w.ownsRow base e 1 (.slice ao (n + 1) cap) (n + 1) (xs ++ [x])) : w.ownsRow base e 1 (.slice ao n cap) n xs := by
  obtain ⟨hl, h⟩ := h
  have hn : xs.length = n := by simp at hl; omega
  refine ⟨by omega, ?_⟩
  rcases h with ⟨hv, h0⟩ | ⟨g, cap', cur, hv, hb, hh, hc, hm, hs, ht⟩
  · omega
  · obtain ⟨e1, e2, e3⟩ : ao = some ⟨g, 0, none⟩ ∧ n + 1 = n + 1 ∧ cap = cap' := by simpa using hv
    subst e1 e3
    refine .inr ⟨g, cap, cur, rfl, hb, hh, by omega, hm, hs, ?_⟩
    have := congrArg (List.take (n * 1)) ht
    rw [List.take_take, Nat.min_eq_left (by omega)] at this
    rw [this, Nat.mul_one, ← hn, List.take_left]
theorem own_len (ao : Option Addr) (n m c d : Nat) : (Value.slice ao n c).ownBlock = (Value.slice ao m d).ownBlock := by cases ao <;> rfl
section
variable {W : World} {S B b : Nat} {h : List TxnV} {C : Nat} {r : List Nat} {vb vr : Value} {aF sF : Nat → Nat} {w : World}
theorem PlIs.undo {i : Nat} {ao : Option Addr} {cap : Nat} (p : PlIs W S B b h C (i :: r) vb (.slice ao (r.length + 1) cap) aF sF w) :
    PlIs W S B b h C r vb (.slice ao r.length cap) aF sF ((w.setCell ⟨S, 3, none⟩ (.slice ao r.length cap)).setCell ⟨S, 4, none⟩ (.int .u64 ((plS r : Nat) : Int))) ∧
    PlStep S (.slice ao (r.length + 1) cap) (.slice ao r.length cap) w ((w.setCell ⟨S, 3, none⟩ (.slice ao r.length cap)).setCell ⟨S, 4, none⟩ (.int .u64 ((plS r : Nat) : Int))) := by
  obtain ⟨hi, hnd⟩ := List.nodup_cons.1 p.nd
  have hrw := p.rw
  rw [List.reverse_cons, List.map_append, List.length_cons] at hrw
  have hne : ∀ k ∈ r, k ≠ i := fun k hk e => hi (by rw [← e]; exact hk)
  refine ⟨⟨p.o, p.t, (p.bel.setCell (p := ⟨S, 3, none⟩) p.low _).setCell (p := ⟨S, 4, none⟩) p.low _, p.low, (p.a.setR _).setP _, pl_far (pl_far p.ba (by simp) _) (by simp) _, pl_far (pl_far (owns_less hrw) (by simp) _) (by simp) _, fun g hg e => p.ne g hg (by rw [own_len ao (r.length + 1) r.length cap cap]; exact e), p.set, fun k hk => ?_, hnd, fun k hk => p.lt k (List.mem_cons_of_mem _ hk), (base_tail hi p.base).1⟩, ?_⟩
  · have := p.eq k (List.mem_cons_of_mem _ hk)
    rw [aheadL_tail (hne k hk), plSee_tail (hne k hk)] at this
    exact this
  · exact (((PlStep.refl S _ w).setCell 3 _).setCell 4 _).as (own_len _ _ _ _ _)
/-- A state while one is placed. -/
structure PlRaw (W : World) (S B C : Nat) (h : List TxnV) (r : List Nat) (vb vr : Value) (aF sF : Nat → Nat) (w0 w : World) : Prop where
  bel : Below W.heap.size W w
  low : W.heap.size ≤ S
  a : PlAt w S B C vb vr (plS r) aF sF
  ba : w.ownsRow (S + 1) 95 1 vb h.length ((List.range h.length).map fun i => .int .u64 ((baseN h C i : Nat) : Int))
  rw : w.ownsRow (S + 1) 3 1 vr r.length (r.reverse.map fun i : Nat => .int .i64 (i : Int))
  st : PlStep S vr vr w0 w
theorem PlIs.raw (p : PlIs W S B b h C r vb vr aF sF w) : PlRaw W S B C h r vb vr aF sF w w := ⟨p.bel, p.low, p.a, p.ba, p.rw, .refl _ _ _⟩
section
variable {w0 w' : World}
theorem PlRaw.below (p : PlRaw W S B C h r vb vr aF sF w0 w) (hb : Below w.heap.size w w') : PlRaw W S B C h r vb vr aF sF w0 w' :=
  ⟨p.bel.trans (hb.mono p.bel.size), p.low, p.a.below hb p.a.lt, owns_below p.ba hb, owns_below p.rw hb, p.st.below hb⟩
theorem PlRaw.setA (p : PlRaw W S B C h r vb vr aF sF w0 w) {k : Nat} (hk : k < 64) (s : Nat) : PlRaw W S B C h r vb vr (updN aF k s) sF w0 (w.setCell ⟨S, 5 + k, none⟩ (.int .u64 (s : Int))) :=
  ⟨p.bel.setCell (p := ⟨S, 5 + k, none⟩) p.low _, p.low, p.a.setA hk s, pl_far p.ba (by simp) _, pl_far p.rw (by simp) _, p.st.setCell _ _⟩
theorem PlRaw.setS (p : PlRaw W S B C h r vb vr aF sF w0 w) {k : Nat} (hk : k < 64) (s : Nat) : PlRaw W S B C h r vb vr aF (updN sF k s) w0 (w.setCell ⟨S, 69 + k, none⟩ (.int .u64 (s : Int))) :=
  ⟨p.bel.setCell (p := ⟨S, 69 + k, none⟩) p.low _, p.low, p.a.setS hk s, pl_far p.ba (by simp) _, pl_far p.rw (by simp) _, p.st.setCell _ _⟩
theorem updN_same (F : Nat → Nat) (i s : Nat) : updN F i s i = s := by unfold updN; rw [if_pos rfl]
theorem updN_other (F : Nat → Nat) {i k : Nat} (s : Nat) (hk : k ≠ i) : updN F i s k = F k := by unfold updN; rw [if_neg hk]
/-- One is placed: what lies there behind the append. -/
theorem PlRaw.app (p : PlRaw W S B C h r vb vr aF sF w0 w) (hne : ∀ g, vb.ownBlock = some g → vr.ownBlock ≠ some g) {w5 : World} {g cap n : Nat} {xs : List Value} (hown : w5.ownsRow (S + 1) 3 1 (.slice (some ⟨g, 0, none⟩) n cap) n xs) (hg : w.grownBy w5 vr.ownBlock) (hl : vr.ownBlock = some g ∨ g = w.heap.size) :
    Below W.heap.size W w5 ∧ PlAt w5 S B C vb vr (plS r) aF sF ∧ w5.ownsRow (S + 1) 95 1 vb h.length ((List.range h.length).map fun i => .int .u64 ((baseN h C i : Nat) : Int)) ∧ PlStep S vr (.slice (some ⟨g, 0, none⟩) n cap) w0 w5 ∧ ∀ k, vb.ownBlock = some k → k ≠ g := by
  have hS : vr.ownBlock ≠ some S := fun e => by have := (p.rw.lt _ e).1; omega
  refine ⟨p.bel.grown hg p.bel.size (fun k hk => ?_), p.a.grown hg (fun e => hS e.symm), p.ba.kept hg ?_, p.st.grown hg (fun k hk => ?_), fun k hk e => ?_⟩
  · have := (p.rw.lt _ hk).1
    have := p.low
    omega
  · cases hb : vb.ownBlock with
    | none => exact .inl rfl
    | some k => exact .inr (fun e => hne k hb e.symm)
  · have e : g = k := by injection hk
    rcases hl with q | q
    · exact .inl (by rw [← e]; exact q)
    · exact .inr (by omega)
  · subst e
    rcases hl with q | q
    · exact hne k hk q
    · have := (p.ba.lt _ hk).2
      omega
theorem PlIs.done (p : PlIs W S B b h C r vb vr aF sF w) {i s : Nat} (hi : i < h.length) (hin : i ∉ r) (hbs : ∀ j, (baseN h C i).testBit j = true → (plS r).testBit j = true) (h64 : h.length ≤ 64) (hs : s = nextN h C r i) {w4 w5 : World} (q : PlRaw W S B C h r vb vr (updN aF i (plS r)) (updN sF i s) w w4)
    {g cap : Nat} (hown : w5.ownsRow (S + 1) 3 1 (.slice (some ⟨g, 0, none⟩) (r.length + 1) cap) (r.length + 1) ((r.reverse.map fun i : Nat => .int .i64 (i : Int)) ++ [.int .i64 (i : Int)])) (hg : w4.grownBy w5 vr.ownBlock) (hl : vr.ownBlock = some g ∨ g = w4.heap.size) :
    PlIs W S B b h C (i :: r) vb (.slice (some ⟨g, 0, none⟩) (r.length + 1) cap) (updN aF i (plS r)) (updN sF i s) ((w5.setCell ⟨S, 3, none⟩ (.slice (some ⟨g, 0, none⟩) (r.length + 1) cap)).setCell ⟨S, 4, none⟩ (.int .u64 ((plS (i :: r) : Nat) : Int))) ∧
    PlStep S vr (.slice (some ⟨g, 0, none⟩) (r.length + 1) cap) w ((w5.setCell ⟨S, 3, none⟩ (.slice (some ⟨g, 0, none⟩) (r.length + 1) cap)).setCell ⟨S, 4, none⟩ (.int .u64 ((plS (i :: r) : Nat) : Int))) := by
  obtain ⟨b5, a5, v5, s5, n5⟩ := q.app p.ne hown hg hl
  have hi64 : i < 64 := by omega
  have hset : IsSet s := by rw [hs]; exact wld4_set (baseN_set h C i) (plS_set r) (rivN_set h i) (fun k _ => plSee_set h C r k) (fun k _ => aheadL_set r k)
  refine ⟨⟨p.o, p.t, (b5.setCell (p := ⟨S, 3, none⟩) p.low _).setCell (p := ⟨S, 4, none⟩) p.low _, p.low, (a5.setR _).setP _, pl_far (pl_far v5 (by simp) _) (by simp) _, ?_, fun k hk e => n5 k hk (by injection e with e; exact e.symm), fun k hk => ?_, fun k hk => ?_, List.nodup_cons.2 ⟨hin, p.nd⟩, fun k hk => ?_, fun k hk j hj => ?_⟩, (s5.setCell 3 _).setCell 4 _⟩
  · rw [List.reverse_cons, List.map_append, List.length_cons]
    exact pl_far (pl_far hown (by simp) _) (by simp) _
  · by_cases e : k = i
    · subst e; rw [updN_same, updN_same]; exact ⟨plS_set r, hset⟩
    · rw [updN_other _ _ e, updN_other _ _ e]; exact p.set k hk
  · by_cases e : k = i
    · subst e
      rw [updN_same, updN_same, aheadL, if_pos rfl, plSee, if_pos rfl, hs]
      exact ⟨rfl, rfl⟩
    · rw [updN_other _ _ e, updN_other _ _ e, aheadL_tail e, plSee_tail e]
      rcases List.mem_cons.1 hk with q | q
      · exact (e q).elim
      · exact p.eq k q
  · rcases List.mem_cons.1 hk with q | q
    · omega
    · exact p.lt k q
  · by_cases e : k = i
    · subst e
      rw [aheadL, if_pos rfl]
      exact hbs j hj
    · rw [aheadL_tail e]
      rcases List.mem_cons.1 hk with q | q
      · exact (e q).elim
      · exact p.base k q j hj
end
end
end Go.Proofs.YtecpeegbfeijaaaGreatDoor

namespace Go.Proofs.YtecpeegbfeijaaaGreatDoor
set_option maxRecDepth 100000
open Go.RowKit

section
variable {W : World} {S B b : Nat} {h : List TxnV} {C : Nat} {r : List Nat} {vb vr : Value} {aF sF : Nat → Nat} {w : World}
set_option maxRecDepth 100000 in
set_option maxHeartbeats 16000000 in
theorem pundo_cons {i : Nat} (p : PlIs W S B b h C (i :: r) vb vr aF sF w) (h64 : h.length ≤ 64) : Calls Tryz.prog 103 #[.pointer (some ⟨S, 0, none⟩)] w fun e w' => e = .returned (.bool true) ∧ ∃ vr', PlIs W S B b h C r vb vr' aF sF w' ∧ PlStep S vr vr' w w' := by
  obtain ⟨ao, cap, rfl⟩ := p.form
  have hlen := p.len
  simp only [List.length_cons] at p hlen ⊢
  have HU := Lib.hid (fun wx (hx : Below w.heap.size w wx) => (p.below hx).undo)
  have HX := Lib.hid (fun wx (hx : Below w.heap.size w wx) => PlStep.of_below (S := S) (vr := .slice ao (r.length + 1) cap) hx)
  have hrow := p.row
  have hl1 : ((i :: r).reverse.map Int.ofNat).length = r.length + 1 := by simp
  obtain ⟨g, o, hao, hcell⟩ := Ints.at (ao := ao) (n := r.length + 1) (cap := cap) hrow (k := r.length) (by rw [hl1]; omega)
  subst hao
  have hval : ((i :: r).reverse.map Int.ofNat)[r.length]'(by rw [hl1]; omega) = (i : Int) := by simp
  rw [hval] at hcell
  have HS := Lib.hid (fun wx (hx : Below w.heap.size w wx) => And.intro (p.below hx).a.cR (And.intro (p.below hx).a.cP (And.intro ((hx.cell (p := ⟨g, o + r.length, none⟩) (block_lt hcell)).trans hcell) (And.intro ((p.below hx).a.free (i := 3) (by omega)) ((p.below hx).a.free (i := 4) (by omega))))))
  have hpop := plS_pop (i := i) (r := r) (List.nodup_cons.1 p.nd).1 (fun a ha => by have := p.lt a ha; omega)
  have CW := Lib.hid (fun wx => wo_any (plS (i :: r)) (i : Int) wx (plS_set _))
  rw [hpop] at CW
  have hr64 : (r.length : Int) < 64 := by omega
  have hr1 : (r.length : Int) + 1 - 1 = (r.length : Int) := by omega
  have hr2 : (r.length : Int) < (r.length : Int) + 1 := by omega
  have hc1 : r.length ≤ cap := by
    have := p.rw.2
    rcases this with ⟨e, _⟩ | ⟨_, _, _, e, _, _, hh, _⟩
    · cases e
    · simp only [Value.slice.injEq] at e
      simp only [List.length_cons] at hh
      omega
  have hc2 : (r.length : Int) ≤ (cap : Int) := by omega
  have kd0 := Below.refl w.heap.size w
  obtain ⟨n3, n4, _, _, _⟩ := HS.out _ kd0
  clear p hrow hl1 hval hcell hpop hlen
  generalize plS (i :: r) = s1 at *
  generalize plS r = s0 at *
  generalize r.length = n at *
  go_enter Tryz.func103, Tryz.ntmps103
  go_upto_region 4 with fail
  have kd := kd0.drew
  clear n3 n4 kd0
  refine wp_region_held_drew (S := fun _ => True) (by kernel_rfl) trivial (fun hS0 => ?_)
  generalize w.drew = wd at *
  obtain ⟨n3, n4, n5, f3, f4⟩ := HS.out _ kd
  refine takeG (some 16) (i := 0) (v := ?vu0x1) rfl rfl (by kernel_rfl) (by kernel_rfl) (by kernel_rfl) (fun _ _ _ h => h) (Or.inl ⟨by rfl, ?hu0x1⟩) hS0 ?ru0x1
  case hu0x1 => (intro w _; go_simp; try (with_reducible rfl))
  try simp only [Act.put, List.setIfInBounds_toArray, List.set_cons_zero, List.set_cons_succ]
  refine takeG (some 17) (i := 1) (v := ?vu1x2) rfl rfl (by kernel_rfl) (by kernel_rfl) (by kernel_rfl) (fun _ _ _ h => h) (Or.inl ⟨by rfl, ?hu1x2⟩) hS0 ?ru1x2
  case hu1x2 => (intro w _; go_simp; try (with_reducible rfl))
  try simp only [Act.put, List.setIfInBounds_toArray, List.set_cons_zero, List.set_cons_succ]
  refine takeG (some 18) (i := 2) (v := ?vu2x3) rfl rfl (by kernel_rfl) (by kernel_rfl) (by kernel_rfl) (fun _ _ _ h => h) (Or.inl ⟨by rfl, ?hu2x3⟩) hS0 ?ru2x3
  case hu2x3 => (intro w _; go_simp; try (with_reducible rfl))
  try simp only [Act.put, List.setIfInBounds_toArray, List.set_cons_zero, List.set_cons_succ]
  refine takeG (some 19) (i := 3) (v := ?vu3x4) rfl rfl (by kernel_rfl) (by kernel_rfl) (by kernel_rfl) (fun _ _ _ h => h) (Or.inl ⟨by rfl, ?hu3x4⟩) hS0 ?ru3x4
  case hu3x4 => (intro w _; go_simp; try (with_reducible rfl))
  try simp only [Act.put, List.setIfInBounds_toArray, List.set_cons_zero, List.set_cons_succ]
  refine takeG (some 20) (i := 4) (v := ?vu4x5) rfl rfl (by kernel_rfl) (by kernel_rfl) (by kernel_rfl) (fun _ _ _ h => h) (Or.inl ⟨by rfl, ?hu4x5⟩) hS0 ?ru4x5
  case hu4x5 => (intro w _; go_simp; try (with_reducible rfl))
  try simp only [Act.put, List.setIfInBounds_toArray, List.set_cons_zero, List.set_cons_succ]
  refine takeG (some 22) (i := 6) (v := ?vu6x6) rfl rfl (by kernel_rfl) (by kernel_rfl) (by kernel_rfl) (fun _ _ _ h => h) (Or.inl ⟨by rfl, ?hu6x6⟩) hS0 ?ru6x6
  case hu6x6 => (intro w _; go_simp; try (with_reducible rfl))
  try simp only [Act.put, List.setIfInBounds_toArray, List.set_cons_zero, List.set_cons_succ]
  refine takeG (some 24) (i := 8) (v := ?vu8x7) rfl rfl (by kernel_rfl) (by kernel_rfl) (by kernel_rfl) (fun _ _ _ h => h) (Or.inl ⟨by rfl, ?hu8x7⟩) hS0 ?ru8x7
  case hu8x7 => (intro w _; go_simp; try (with_reducible rfl))
  try simp only [Act.put, List.setIfInBounds_toArray, List.set_cons_zero, List.set_cons_succ]
  refine takeG (some 25) (i := 9) (v := ?vu9x8) rfl rfl (by kernel_rfl) (by kernel_rfl) (by kernel_rfl) (fun _ _ _ h => h) (Or.inl ⟨by rfl, ?hu9x8⟩) hS0 ?ru9x8
  case hu9x8 => (intro w _; go_simp; try (with_reducible rfl))
  try simp only [Act.put, List.setIfInBounds_toArray, List.set_cons_zero, List.set_cons_succ]
  refine takeG (some 26) (i := 10) (v := ?vu10x9) rfl rfl (by kernel_rfl) (by kernel_rfl) (by kernel_rfl) (fun _ _ _ h => h) (Or.inl ⟨by rfl, ?hu10x9⟩) hS0 ?ru10x9
  case hu10x9 => (intro w _; go_simp; try (with_reducible rfl))
  try simp only [Act.put, List.setIfInBounds_toArray, List.set_cons_zero, List.set_cons_succ]
  refine takeG (some 28) (i := 12) (v := ?vu12x10) rfl rfl (by kernel_rfl) (by kernel_rfl) (by kernel_rfl) (fun _ _ _ h => h) (Or.inl ⟨by rfl, ?hu12x10⟩) hS0 ?ru12x10
  case hu12x10 => (intro w _; go_simp; try (with_reducible rfl))
  try simp only [Act.put, List.setIfInBounds_toArray, List.set_cons_zero, List.set_cons_succ]
  refine takeG (some 29) (i := 13) (v := ?vu13x11) rfl rfl (by kernel_rfl) (by kernel_rfl) (by kernel_rfl) (fun _ _ _ h => h) (Or.inl ⟨by rfl, ?hu13x11⟩) hS0 ?ru13x11
  case hu13x11 => (intro w _; go_simp; try (with_reducible rfl))
  try simp only [Act.put, List.setIfInBounds_toArray, List.set_cons_zero, List.set_cons_succ]
  refine takeG (some 30) (i := 14) (v := ?vu14x12) rfl rfl (by kernel_rfl) (by kernel_rfl) (by kernel_rfl) (fun _ _ _ h => h) (Or.inl ⟨by rfl, ?hu14x12⟩) hS0 ?ru14x12
  case hu14x12 => (intro w _; go_simp; try (with_reducible rfl))
  try simp only [Act.put, List.setIfInBounds_toArray, List.set_cons_zero, List.set_cons_succ]
  refine takeG (some 32) (i := 16) (v := ?vu16x13) rfl rfl (by kernel_rfl) (by kernel_rfl) (by kernel_rfl) (fun _ _ _ h => h) (Or.inl ⟨by rfl, ?hu16x13⟩) hS0 ?ru16x13
  case hu16x13 => (intro w _; go_simp; try (with_reducible rfl))
  try simp only [Act.put, List.setIfInBounds_toArray, List.set_cons_zero, List.set_cons_succ]
  refine wpAnyH_ready (rs := [5, 11, 15]) (by kernel_rfl) (by simp) ?_
  refine AllReadyH.cons rfl (fun K hK => ?_) (AllReadyH.cons rfl (fun K hK => ?_) (AllReadyH.cons rfl (fun K hK => ?_) AllReadyH.nil))
  ·
    go_simp
    refine hK.out _ _ trivial (fun _ => ?_)
    clear hK K
    refine takeG (some 23) (i := 7) (v := ?vu7x15) rfl rfl (by kernel_rfl) (by kernel_rfl) (by kernel_rfl) (fun _ _ _ h => h) (Or.inl ⟨by rfl, ?hu7x15⟩) hS0 ?ru7x15
    case hu7x15 => (intro w _; go_simp; try (with_reducible rfl))
    try simp only [Act.put, List.setIfInBounds_toArray, List.set_cons_zero, List.set_cons_succ]
    refine wpAnyH_ready (rs := [11, 15]) (by kernel_rfl) (by simp) ?_
    refine AllReadyH.cons rfl (fun K hK => ?_) (AllReadyH.cons rfl (fun K hK => ?_) AllReadyH.nil)
    ·
      go_simp
      refine hK.out _ _ trivial (fun _ => ?_)
      clear hK K
      refine wpAnyH_ready (rs := [15]) (by kernel_rfl) (by simp) ?_
      refine AllReadyH.cons rfl (fun K hK => ?_) AllReadyH.nil
      go_simp
      refine hK.out _ _ trivial (fun _ => ?_)
      clear hK K
      refine takeG (some 33) (i := 17) (v := ?vu17x18) rfl rfl (by kernel_rfl) (by kernel_rfl) (by kernel_rfl) (fun _ _ _ h => h) (Or.inl ⟨by rfl, ?hu17x18⟩) hS0 ?ru17x18
      case hu17x18 => (intro w _; go_simp; try (with_reducible rfl))
      try simp only [Act.put, List.setIfInBounds_toArray, List.set_cons_zero, List.set_cons_succ]
      refine wpAnyH_ready (rs := [18]) (by kernel_rfl) (by simp) ?_
      refine AllReadyH.cons rfl (fun K hK => ?_) AllReadyH.nil
      go_simp
      refine hK.out _ _ trivial (fun _ => ?_)
      clear hK K
      refine wpAnyH_ready (rs := [19]) (by kernel_rfl) (by simp) ?_
      refine AllReadyH.cons rfl (fun K hK => ?_) AllReadyH.nil
      go_simp
      refine (CW.out _).mono ?_
      rintro e y1 ⟨rfl, rfl⟩
      show K _ _
      refine hK.out _ _ trivial (fun _ => ?_)
      clear hK K
      refine takeG (some 36) (i := 20) (v := ?vu20x21) rfl rfl (by kernel_rfl) (by kernel_rfl) (by kernel_rfl) (fun _ _ _ h => h) (Or.inl ⟨by rfl, ?hu20x21⟩) hS0 ?ru20x21
      case hu20x21 => (intro w _; go_simp; try (with_reducible rfl))
      try simp only [Act.put, List.setIfInBounds_toArray, List.set_cons_zero, List.set_cons_succ]
      refine takeG (some 37) (i := 21) (v := ?vu21x22) rfl rfl (by kernel_rfl) (by kernel_rfl) (by kernel_rfl) (fun _ _ _ h => h) (Or.inl ⟨by rfl, ?hu21x22⟩) hS0 ?ru21x22
      case hu21x22 => (intro w _; go_simp; try (with_reducible rfl))
      try simp only [Act.put, List.setIfInBounds_toArray, List.set_cons_zero, List.set_cons_succ]
      refine wpAnyH_ready (rs := [22]) (by kernel_rfl) (by simp) ?_
      refine AllReadyH.cons rfl (fun K hK => ?_) AllReadyH.nil
      go_simp
      refine hK.out _ _ trivial (fun _ => ?_)
      clear hK K
      refine takeG (some 38) (i := 23) (v := ?vu23x24) rfl rfl (by kernel_rfl) (by kernel_rfl) (by kernel_rfl) (fun _ _ _ h => h) (Or.inl ⟨by rfl, ?hu23x24⟩) hS0 ?ru23x24
      case hu23x24 => (intro w _; go_simp; try (with_reducible rfl))
      try simp only [Act.put, List.setIfInBounds_toArray, List.set_cons_zero, List.set_cons_succ]
      refine takeG (some 39) (i := 24) (v := ?vu24x25) rfl rfl (by kernel_rfl) (by kernel_rfl) (by kernel_rfl) (fun _ _ _ h => h) (Or.inl ⟨by rfl, ?hu24x25⟩) hS0 ?ru24x25
      case hu24x25 => (intro w _; go_simp; try (with_reducible rfl))
      try simp only [Act.put, List.setIfInBounds_toArray, List.set_cons_zero, List.set_cons_succ]
      refine wpAnyH_ready (rs := [25]) (by kernel_rfl) (by simp) ?_
      refine AllReadyH.cons rfl (fun K hK => ?_) AllReadyH.nil
      have q4 : (World.setCell wd ⟨S, 3, none⟩ (.slice (some ⟨g, o, none⟩) n cap)).cell? ⟨S, 4, none⟩ = some (.int .u64 (s1 : Int)) := by rw [World.cell?_setCell_other _ _ _ _ (by simp)]; exact n4
      go_simp
      refine hK.out _ _ trivial (fun _ => ?_)
      clear hK K
      refine wpAnyH_done (by kernel_rfl) ?_ _
      have hu := HU.out _ kd
      have hx := HX.out _ kd
      go_wp2_with fail
      go_ret
      exact ⟨rfl, _, hu.1, hx.trans hu.2⟩
    ·
      go_simp
      refine hK.out _ _ trivial (fun _ => ?_)
      clear hK K
      refine takeG (some 33) (i := 17) (v := ?vu17x28) rfl rfl (by kernel_rfl) (by kernel_rfl) (by kernel_rfl) (fun _ _ _ h => h) (Or.inl ⟨by rfl, ?hu17x28⟩) hS0 ?ru17x28
      case hu17x28 => (intro w _; go_simp; try (with_reducible rfl))
      try simp only [Act.put, List.setIfInBounds_toArray, List.set_cons_zero, List.set_cons_succ]
      refine wpAnyH_ready (rs := [11, 18]) (by kernel_rfl) (by simp) ?_
      refine AllReadyH.cons rfl (fun K hK => ?_) (AllReadyH.cons rfl (fun K hK => ?_) AllReadyH.nil)
      ·
        go_simp
        refine hK.out _ _ trivial (fun _ => ?_)
        clear hK K
        refine wpAnyH_ready (rs := [18]) (by kernel_rfl) (by simp) ?_
        refine AllReadyH.cons rfl (fun K hK => ?_) AllReadyH.nil
        go_simp
        refine hK.out _ _ trivial (fun _ => ?_)
        clear hK K
        refine wpAnyH_ready (rs := [19]) (by kernel_rfl) (by simp) ?_
        refine AllReadyH.cons rfl (fun K hK => ?_) AllReadyH.nil
        go_simp
        refine (CW.out _).mono ?_
        rintro e y1 ⟨rfl, rfl⟩
        show K _ _
        refine hK.out _ _ trivial (fun _ => ?_)
        clear hK K
        refine takeG (some 36) (i := 20) (v := ?vu20x32) rfl rfl (by kernel_rfl) (by kernel_rfl) (by kernel_rfl) (fun _ _ _ h => h) (Or.inl ⟨by rfl, ?hu20x32⟩) hS0 ?ru20x32
        case hu20x32 => (intro w _; go_simp; try (with_reducible rfl))
        try simp only [Act.put, List.setIfInBounds_toArray, List.set_cons_zero, List.set_cons_succ]
        refine takeG (some 37) (i := 21) (v := ?vu21x33) rfl rfl (by kernel_rfl) (by kernel_rfl) (by kernel_rfl) (fun _ _ _ h => h) (Or.inl ⟨by rfl, ?hu21x33⟩) hS0 ?ru21x33
        case hu21x33 => (intro w _; go_simp; try (with_reducible rfl))
        try simp only [Act.put, List.setIfInBounds_toArray, List.set_cons_zero, List.set_cons_succ]
        refine wpAnyH_ready (rs := [22]) (by kernel_rfl) (by simp) ?_
        refine AllReadyH.cons rfl (fun K hK => ?_) AllReadyH.nil
        go_simp
        refine hK.out _ _ trivial (fun _ => ?_)
        clear hK K
        refine takeG (some 38) (i := 23) (v := ?vu23x35) rfl rfl (by kernel_rfl) (by kernel_rfl) (by kernel_rfl) (fun _ _ _ h => h) (Or.inl ⟨by rfl, ?hu23x35⟩) hS0 ?ru23x35
        case hu23x35 => (intro w _; go_simp; try (with_reducible rfl))
        try simp only [Act.put, List.setIfInBounds_toArray, List.set_cons_zero, List.set_cons_succ]
        refine takeG (some 39) (i := 24) (v := ?vu24x36) rfl rfl (by kernel_rfl) (by kernel_rfl) (by kernel_rfl) (fun _ _ _ h => h) (Or.inl ⟨by rfl, ?hu24x36⟩) hS0 ?ru24x36
        case hu24x36 => (intro w _; go_simp; try (with_reducible rfl))
        try simp only [Act.put, List.setIfInBounds_toArray, List.set_cons_zero, List.set_cons_succ]
        refine wpAnyH_ready (rs := [25]) (by kernel_rfl) (by simp) ?_
        refine AllReadyH.cons rfl (fun K hK => ?_) AllReadyH.nil
        have q4 : (World.setCell wd ⟨S, 3, none⟩ (.slice (some ⟨g, o, none⟩) n cap)).cell? ⟨S, 4, none⟩ = some (.int .u64 (s1 : Int)) := by rw [World.cell?_setCell_other _ _ _ _ (by simp)]; exact n4
        go_simp
        refine hK.out _ _ trivial (fun _ => ?_)
        clear hK K
        refine wpAnyH_done (by kernel_rfl) ?_ _
        have hu := HU.out _ kd
        have hx := HX.out _ kd
        go_wp2_with fail
        go_ret
        exact ⟨rfl, _, hu.1, hx.trans hu.2⟩
      ·
        go_simp
        refine hK.out _ _ trivial (fun _ => ?_)
        clear hK K
        refine wpAnyH_ready (rs := [11]) (by kernel_rfl) (by simp) ?_
        refine AllReadyH.cons rfl (fun K hK => ?_) AllReadyH.nil
        go_simp
        refine hK.out _ _ trivial (fun _ => ?_)
        clear hK K
        refine wpAnyH_ready (rs := [19]) (by kernel_rfl) (by simp) ?_
        refine AllReadyH.cons rfl (fun K hK => ?_) AllReadyH.nil
        go_simp
        refine (CW.out _).mono ?_
        rintro e y1 ⟨rfl, rfl⟩
        show K _ _
        refine hK.out _ _ trivial (fun _ => ?_)
        clear hK K
        refine takeG (some 36) (i := 20) (v := ?vu20x41) rfl rfl (by kernel_rfl) (by kernel_rfl) (by kernel_rfl) (fun _ _ _ h => h) (Or.inl ⟨by rfl, ?hu20x41⟩) hS0 ?ru20x41
        case hu20x41 => (intro w _; go_simp; try (with_reducible rfl))
        try simp only [Act.put, List.setIfInBounds_toArray, List.set_cons_zero, List.set_cons_succ]
        refine takeG (some 37) (i := 21) (v := ?vu21x42) rfl rfl (by kernel_rfl) (by kernel_rfl) (by kernel_rfl) (fun _ _ _ h => h) (Or.inl ⟨by rfl, ?hu21x42⟩) hS0 ?ru21x42
        case hu21x42 => (intro w _; go_simp; try (with_reducible rfl))
        try simp only [Act.put, List.setIfInBounds_toArray, List.set_cons_zero, List.set_cons_succ]
        refine wpAnyH_ready (rs := [22]) (by kernel_rfl) (by simp) ?_
        refine AllReadyH.cons rfl (fun K hK => ?_) AllReadyH.nil
        go_simp
        refine hK.out _ _ trivial (fun _ => ?_)
        clear hK K
        refine takeG (some 38) (i := 23) (v := ?vu23x44) rfl rfl (by kernel_rfl) (by kernel_rfl) (by kernel_rfl) (fun _ _ _ h => h) (Or.inl ⟨by rfl, ?hu23x44⟩) hS0 ?ru23x44
        case hu23x44 => (intro w _; go_simp; try (with_reducible rfl))
        try simp only [Act.put, List.setIfInBounds_toArray, List.set_cons_zero, List.set_cons_succ]
        refine takeG (some 39) (i := 24) (v := ?vu24x45) rfl rfl (by kernel_rfl) (by kernel_rfl) (by kernel_rfl) (fun _ _ _ h => h) (Or.inl ⟨by rfl, ?hu24x45⟩) hS0 ?ru24x45
        case hu24x45 => (intro w _; go_simp; try (with_reducible rfl))
        try simp only [Act.put, List.setIfInBounds_toArray, List.set_cons_zero, List.set_cons_succ]
        refine wpAnyH_ready (rs := [25]) (by kernel_rfl) (by simp) ?_
        refine AllReadyH.cons rfl (fun K hK => ?_) AllReadyH.nil
        have q4 : (World.setCell wd ⟨S, 3, none⟩ (.slice (some ⟨g, o, none⟩) n cap)).cell? ⟨S, 4, none⟩ = some (.int .u64 (s1 : Int)) := by rw [World.cell?_setCell_other _ _ _ _ (by simp)]; exact n4
        go_simp
        refine hK.out _ _ trivial (fun _ => ?_)
        clear hK K
        refine wpAnyH_done (by kernel_rfl) ?_ _
        have hu := HU.out _ kd
        have hx := HX.out _ kd
        go_wp2_with fail
        go_ret
        exact ⟨rfl, _, hu.1, hx.trans hu.2⟩
  ·
    go_simp
    refine hK.out _ _ trivial (fun _ => ?_)
    clear hK K
    refine wpAnyH_ready (rs := [5, 15]) (by kernel_rfl) (by simp) ?_
    refine AllReadyH.cons rfl (fun K hK => ?_) (AllReadyH.cons rfl (fun K hK => ?_) AllReadyH.nil)
    ·
      go_simp
      refine hK.out _ _ trivial (fun _ => ?_)
      clear hK K
      refine takeG (some 23) (i := 7) (v := ?vu7x49) rfl rfl (by kernel_rfl) (by kernel_rfl) (by kernel_rfl) (fun _ _ _ h => h) (Or.inl ⟨by rfl, ?hu7x49⟩) hS0 ?ru7x49
      case hu7x49 => (intro w _; go_simp; try (with_reducible rfl))
      try simp only [Act.put, List.setIfInBounds_toArray, List.set_cons_zero, List.set_cons_succ]
      refine wpAnyH_ready (rs := [15]) (by kernel_rfl) (by simp) ?_
      refine AllReadyH.cons rfl (fun K hK => ?_) AllReadyH.nil
      go_simp
      refine hK.out _ _ trivial (fun _ => ?_)
      clear hK K
      refine takeG (some 33) (i := 17) (v := ?vu17x51) rfl rfl (by kernel_rfl) (by kernel_rfl) (by kernel_rfl) (fun _ _ _ h => h) (Or.inl ⟨by rfl, ?hu17x51⟩) hS0 ?ru17x51
      case hu17x51 => (intro w _; go_simp; try (with_reducible rfl))
      try simp only [Act.put, List.setIfInBounds_toArray, List.set_cons_zero, List.set_cons_succ]
      refine wpAnyH_ready (rs := [18]) (by kernel_rfl) (by simp) ?_
      refine AllReadyH.cons rfl (fun K hK => ?_) AllReadyH.nil
      go_simp
      refine hK.out _ _ trivial (fun _ => ?_)
      clear hK K
      refine wpAnyH_ready (rs := [19]) (by kernel_rfl) (by simp) ?_
      refine AllReadyH.cons rfl (fun K hK => ?_) AllReadyH.nil
      go_simp
      refine (CW.out _).mono ?_
      rintro e y1 ⟨rfl, rfl⟩
      show K _ _
      refine hK.out _ _ trivial (fun _ => ?_)
      clear hK K
      refine takeG (some 36) (i := 20) (v := ?vu20x54) rfl rfl (by kernel_rfl) (by kernel_rfl) (by kernel_rfl) (fun _ _ _ h => h) (Or.inl ⟨by rfl, ?hu20x54⟩) hS0 ?ru20x54
      case hu20x54 => (intro w _; go_simp; try (with_reducible rfl))
      try simp only [Act.put, List.setIfInBounds_toArray, List.set_cons_zero, List.set_cons_succ]
      refine takeG (some 37) (i := 21) (v := ?vu21x55) rfl rfl (by kernel_rfl) (by kernel_rfl) (by kernel_rfl) (fun _ _ _ h => h) (Or.inl ⟨by rfl, ?hu21x55⟩) hS0 ?ru21x55
      case hu21x55 => (intro w _; go_simp; try (with_reducible rfl))
      try simp only [Act.put, List.setIfInBounds_toArray, List.set_cons_zero, List.set_cons_succ]
      refine wpAnyH_ready (rs := [22]) (by kernel_rfl) (by simp) ?_
      refine AllReadyH.cons rfl (fun K hK => ?_) AllReadyH.nil
      go_simp
      refine hK.out _ _ trivial (fun _ => ?_)
      clear hK K
      refine takeG (some 38) (i := 23) (v := ?vu23x57) rfl rfl (by kernel_rfl) (by kernel_rfl) (by kernel_rfl) (fun _ _ _ h => h) (Or.inl ⟨by rfl, ?hu23x57⟩) hS0 ?ru23x57
      case hu23x57 => (intro w _; go_simp; try (with_reducible rfl))
      try simp only [Act.put, List.setIfInBounds_toArray, List.set_cons_zero, List.set_cons_succ]
      refine takeG (some 39) (i := 24) (v := ?vu24x58) rfl rfl (by kernel_rfl) (by kernel_rfl) (by kernel_rfl) (fun _ _ _ h => h) (Or.inl ⟨by rfl, ?hu24x58⟩) hS0 ?ru24x58
      case hu24x58 => (intro w _; go_simp; try (with_reducible rfl))
      try simp only [Act.put, List.setIfInBounds_toArray, List.set_cons_zero, List.set_cons_succ]
      refine wpAnyH_ready (rs := [25]) (by kernel_rfl) (by simp) ?_
      refine AllReadyH.cons rfl (fun K hK => ?_) AllReadyH.nil
      have q4 : (World.setCell wd ⟨S, 3, none⟩ (.slice (some ⟨g, o, none⟩) n cap)).cell? ⟨S, 4, none⟩ = some (.int .u64 (s1 : Int)) := by rw [World.cell?_setCell_other _ _ _ _ (by simp)]; exact n4
      go_simp
      refine hK.out _ _ trivial (fun _ => ?_)
      clear hK K
      refine wpAnyH_done (by kernel_rfl) ?_ _
      have hu := HU.out _ kd
      have hx := HX.out _ kd
      go_wp2_with fail
      go_ret
      exact ⟨rfl, _, hu.1, hx.trans hu.2⟩
    ·
      go_simp
      refine hK.out _ _ trivial (fun _ => ?_)
      clear hK K
      refine takeG (some 33) (i := 17) (v := ?vu17x61) rfl rfl (by kernel_rfl) (by kernel_rfl) (by kernel_rfl) (fun _ _ _ h => h) (Or.inl ⟨by rfl, ?hu17x61⟩) hS0 ?ru17x61
      case hu17x61 => (intro w _; go_simp; try (with_reducible rfl))
      try simp only [Act.put, List.setIfInBounds_toArray, List.set_cons_zero, List.set_cons_succ]
      refine wpAnyH_ready (rs := [5, 18]) (by kernel_rfl) (by simp) ?_
      refine AllReadyH.cons rfl (fun K hK => ?_) (AllReadyH.cons rfl (fun K hK => ?_) AllReadyH.nil)
      ·
        go_simp
        refine hK.out _ _ trivial (fun _ => ?_)
        clear hK K
        refine takeG (some 23) (i := 7) (v := ?vu7x63) rfl rfl (by kernel_rfl) (by kernel_rfl) (by kernel_rfl) (fun _ _ _ h => h) (Or.inl ⟨by rfl, ?hu7x63⟩) hS0 ?ru7x63
        case hu7x63 => (intro w _; go_simp; try (with_reducible rfl))
        try simp only [Act.put, List.setIfInBounds_toArray, List.set_cons_zero, List.set_cons_succ]
        refine wpAnyH_ready (rs := [18]) (by kernel_rfl) (by simp) ?_
        refine AllReadyH.cons rfl (fun K hK => ?_) AllReadyH.nil
        go_simp
        refine hK.out _ _ trivial (fun _ => ?_)
        clear hK K
        refine wpAnyH_ready (rs := [19]) (by kernel_rfl) (by simp) ?_
        refine AllReadyH.cons rfl (fun K hK => ?_) AllReadyH.nil
        go_simp
        refine (CW.out _).mono ?_
        rintro e y1 ⟨rfl, rfl⟩
        show K _ _
        refine hK.out _ _ trivial (fun _ => ?_)
        clear hK K
        refine takeG (some 36) (i := 20) (v := ?vu20x66) rfl rfl (by kernel_rfl) (by kernel_rfl) (by kernel_rfl) (fun _ _ _ h => h) (Or.inl ⟨by rfl, ?hu20x66⟩) hS0 ?ru20x66
        case hu20x66 => (intro w _; go_simp; try (with_reducible rfl))
        try simp only [Act.put, List.setIfInBounds_toArray, List.set_cons_zero, List.set_cons_succ]
        refine takeG (some 37) (i := 21) (v := ?vu21x67) rfl rfl (by kernel_rfl) (by kernel_rfl) (by kernel_rfl) (fun _ _ _ h => h) (Or.inl ⟨by rfl, ?hu21x67⟩) hS0 ?ru21x67
        case hu21x67 => (intro w _; go_simp; try (with_reducible rfl))
        try simp only [Act.put, List.setIfInBounds_toArray, List.set_cons_zero, List.set_cons_succ]
        refine wpAnyH_ready (rs := [22]) (by kernel_rfl) (by simp) ?_
        refine AllReadyH.cons rfl (fun K hK => ?_) AllReadyH.nil
        go_simp
        refine hK.out _ _ trivial (fun _ => ?_)
        clear hK K
        refine takeG (some 38) (i := 23) (v := ?vu23x69) rfl rfl (by kernel_rfl) (by kernel_rfl) (by kernel_rfl) (fun _ _ _ h => h) (Or.inl ⟨by rfl, ?hu23x69⟩) hS0 ?ru23x69
        case hu23x69 => (intro w _; go_simp; try (with_reducible rfl))
        try simp only [Act.put, List.setIfInBounds_toArray, List.set_cons_zero, List.set_cons_succ]
        refine takeG (some 39) (i := 24) (v := ?vu24x70) rfl rfl (by kernel_rfl) (by kernel_rfl) (by kernel_rfl) (fun _ _ _ h => h) (Or.inl ⟨by rfl, ?hu24x70⟩) hS0 ?ru24x70
        case hu24x70 => (intro w _; go_simp; try (with_reducible rfl))
        try simp only [Act.put, List.setIfInBounds_toArray, List.set_cons_zero, List.set_cons_succ]
        refine wpAnyH_ready (rs := [25]) (by kernel_rfl) (by simp) ?_
        refine AllReadyH.cons rfl (fun K hK => ?_) AllReadyH.nil
        have q4 : (World.setCell wd ⟨S, 3, none⟩ (.slice (some ⟨g, o, none⟩) n cap)).cell? ⟨S, 4, none⟩ = some (.int .u64 (s1 : Int)) := by rw [World.cell?_setCell_other _ _ _ _ (by simp)]; exact n4
        go_simp
        refine hK.out _ _ trivial (fun _ => ?_)
        clear hK K
        refine wpAnyH_done (by kernel_rfl) ?_ _
        have hu := HU.out _ kd
        have hx := HX.out _ kd
        go_wp2_with fail
        go_ret
        exact ⟨rfl, _, hu.1, hx.trans hu.2⟩
      ·
        go_simp
        refine hK.out _ _ trivial (fun _ => ?_)
        clear hK K
        refine wpAnyH_ready (rs := [5, 19]) (by kernel_rfl) (by simp) ?_
        refine AllReadyH.cons rfl (fun K hK => ?_) (AllReadyH.cons rfl (fun K hK => ?_) AllReadyH.nil)
        ·
          go_simp
          refine hK.out _ _ trivial (fun _ => ?_)
          clear hK K
          refine takeG (some 23) (i := 7) (v := ?vu7x74) rfl rfl (by kernel_rfl) (by kernel_rfl) (by kernel_rfl) (fun _ _ _ h => h) (Or.inl ⟨by rfl, ?hu7x74⟩) hS0 ?ru7x74
          case hu7x74 => (intro w _; go_simp; try (with_reducible rfl))
          try simp only [Act.put, List.setIfInBounds_toArray, List.set_cons_zero, List.set_cons_succ]
          refine wpAnyH_ready (rs := [19]) (by kernel_rfl) (by simp) ?_
          refine AllReadyH.cons rfl (fun K hK => ?_) AllReadyH.nil
          go_simp
          refine (CW.out _).mono ?_
          rintro e y1 ⟨rfl, rfl⟩
          show K _ _
          refine hK.out _ _ trivial (fun _ => ?_)
          clear hK K
          refine takeG (some 36) (i := 20) (v := ?vu20x76) rfl rfl (by kernel_rfl) (by kernel_rfl) (by kernel_rfl) (fun _ _ _ h => h) (Or.inl ⟨by rfl, ?hu20x76⟩) hS0 ?ru20x76
          case hu20x76 => (intro w _; go_simp; try (with_reducible rfl))
          try simp only [Act.put, List.setIfInBounds_toArray, List.set_cons_zero, List.set_cons_succ]
          refine takeG (some 37) (i := 21) (v := ?vu21x77) rfl rfl (by kernel_rfl) (by kernel_rfl) (by kernel_rfl) (fun _ _ _ h => h) (Or.inl ⟨by rfl, ?hu21x77⟩) hS0 ?ru21x77
          case hu21x77 => (intro w _; go_simp; try (with_reducible rfl))
          try simp only [Act.put, List.setIfInBounds_toArray, List.set_cons_zero, List.set_cons_succ]
          refine wpAnyH_ready (rs := [22]) (by kernel_rfl) (by simp) ?_
          refine AllReadyH.cons rfl (fun K hK => ?_) AllReadyH.nil
          go_simp
          refine hK.out _ _ trivial (fun _ => ?_)
          clear hK K
          refine takeG (some 38) (i := 23) (v := ?vu23x79) rfl rfl (by kernel_rfl) (by kernel_rfl) (by kernel_rfl) (fun _ _ _ h => h) (Or.inl ⟨by rfl, ?hu23x79⟩) hS0 ?ru23x79
          case hu23x79 => (intro w _; go_simp; try (with_reducible rfl))
          try simp only [Act.put, List.setIfInBounds_toArray, List.set_cons_zero, List.set_cons_succ]
          refine takeG (some 39) (i := 24) (v := ?vu24x80) rfl rfl (by kernel_rfl) (by kernel_rfl) (by kernel_rfl) (fun _ _ _ h => h) (Or.inl ⟨by rfl, ?hu24x80⟩) hS0 ?ru24x80
          case hu24x80 => (intro w _; go_simp; try (with_reducible rfl))
          try simp only [Act.put, List.setIfInBounds_toArray, List.set_cons_zero, List.set_cons_succ]
          refine wpAnyH_ready (rs := [25]) (by kernel_rfl) (by simp) ?_
          refine AllReadyH.cons rfl (fun K hK => ?_) AllReadyH.nil
          have q4 : (World.setCell wd ⟨S, 3, none⟩ (.slice (some ⟨g, o, none⟩) n cap)).cell? ⟨S, 4, none⟩ = some (.int .u64 (s1 : Int)) := by rw [World.cell?_setCell_other _ _ _ _ (by simp)]; exact n4
          go_simp
          refine hK.out _ _ trivial (fun _ => ?_)
          clear hK K
          refine wpAnyH_done (by kernel_rfl) ?_ _
          have hu := HU.out _ kd
          have hx := HX.out _ kd
          go_wp2_with fail
          go_ret
          exact ⟨rfl, _, hu.1, hx.trans hu.2⟩
        ·
          go_simp
          refine (CW.out _).mono ?_
          rintro e y1 ⟨rfl, rfl⟩
          show K _ _
          refine hK.out _ _ trivial (fun _ => ?_)
          clear hK K
          refine wpAnyH_ready (rs := [5]) (by kernel_rfl) (by simp) ?_
          refine AllReadyH.cons rfl (fun K hK => ?_) AllReadyH.nil
          go_simp
          refine hK.out _ _ trivial (fun _ => ?_)
          clear hK K
          refine takeG (some 23) (i := 7) (v := ?vu7x84) rfl rfl (by kernel_rfl) (by kernel_rfl) (by kernel_rfl) (fun _ _ _ h => h) (Or.inl ⟨by rfl, ?hu7x84⟩) hS0 ?ru7x84
          case hu7x84 => (intro w _; go_simp; try (with_reducible rfl))
          try simp only [Act.put, List.setIfInBounds_toArray, List.set_cons_zero, List.set_cons_succ]
          refine takeG (some 36) (i := 20) (v := ?vu20x85) rfl rfl (by kernel_rfl) (by kernel_rfl) (by kernel_rfl) (fun _ _ _ h => h) (Or.inl ⟨by rfl, ?hu20x85⟩) hS0 ?ru20x85
          case hu20x85 => (intro w _; go_simp; try (with_reducible rfl))
          try simp only [Act.put, List.setIfInBounds_toArray, List.set_cons_zero, List.set_cons_succ]
          refine takeG (some 37) (i := 21) (v := ?vu21x86) rfl rfl (by kernel_rfl) (by kernel_rfl) (by kernel_rfl) (fun _ _ _ h => h) (Or.inl ⟨by rfl, ?hu21x86⟩) hS0 ?ru21x86
          case hu21x86 => (intro w _; go_simp; try (with_reducible rfl))
          try simp only [Act.put, List.setIfInBounds_toArray, List.set_cons_zero, List.set_cons_succ]
          refine wpAnyH_ready (rs := [22]) (by kernel_rfl) (by simp) ?_
          refine AllReadyH.cons rfl (fun K hK => ?_) AllReadyH.nil
          go_simp
          refine hK.out _ _ trivial (fun _ => ?_)
          clear hK K
          refine takeG (some 38) (i := 23) (v := ?vu23x88) rfl rfl (by kernel_rfl) (by kernel_rfl) (by kernel_rfl) (fun _ _ _ h => h) (Or.inl ⟨by rfl, ?hu23x88⟩) hS0 ?ru23x88
          case hu23x88 => (intro w _; go_simp; try (with_reducible rfl))
          try simp only [Act.put, List.setIfInBounds_toArray, List.set_cons_zero, List.set_cons_succ]
          refine takeG (some 39) (i := 24) (v := ?vu24x89) rfl rfl (by kernel_rfl) (by kernel_rfl) (by kernel_rfl) (fun _ _ _ h => h) (Or.inl ⟨by rfl, ?hu24x89⟩) hS0 ?ru24x89
          case hu24x89 => (intro w _; go_simp; try (with_reducible rfl))
          try simp only [Act.put, List.setIfInBounds_toArray, List.set_cons_zero, List.set_cons_succ]
          refine wpAnyH_ready (rs := [25]) (by kernel_rfl) (by simp) ?_
          refine AllReadyH.cons rfl (fun K hK => ?_) AllReadyH.nil
          have q4 : (World.setCell wd ⟨S, 3, none⟩ (.slice (some ⟨g, o, none⟩) n cap)).cell? ⟨S, 4, none⟩ = some (.int .u64 (s1 : Int)) := by rw [World.cell?_setCell_other _ _ _ _ (by simp)]; exact n4
          go_simp
          refine hK.out _ _ trivial (fun _ => ?_)
          clear hK K
          refine wpAnyH_done (by kernel_rfl) ?_ _
          have hu := HU.out _ kd
          have hx := HX.out _ kd
          go_wp2_with fail
          go_ret
          exact ⟨rfl, _, hu.1, hx.trans hu.2⟩
  ·
    go_simp
    refine hK.out _ _ trivial (fun _ => ?_)
    clear hK K
    refine takeG (some 33) (i := 17) (v := ?vu17x92) rfl rfl (by kernel_rfl) (by kernel_rfl) (by kernel_rfl) (fun _ _ _ h => h) (Or.inl ⟨by rfl, ?hu17x92⟩) hS0 ?ru17x92
    case hu17x92 => (intro w _; go_simp; try (with_reducible rfl))
    try simp only [Act.put, List.setIfInBounds_toArray, List.set_cons_zero, List.set_cons_succ]
    refine wpAnyH_ready (rs := [5, 11, 18]) (by kernel_rfl) (by simp) ?_
    refine AllReadyH.cons rfl (fun K hK => ?_) (AllReadyH.cons rfl (fun K hK => ?_) (AllReadyH.cons rfl (fun K hK => ?_) AllReadyH.nil))
    ·
      go_simp
      refine hK.out _ _ trivial (fun _ => ?_)
      clear hK K
      refine takeG (some 23) (i := 7) (v := ?vu7x94) rfl rfl (by kernel_rfl) (by kernel_rfl) (by kernel_rfl) (fun _ _ _ h => h) (Or.inl ⟨by rfl, ?hu7x94⟩) hS0 ?ru7x94
      case hu7x94 => (intro w _; go_simp; try (with_reducible rfl))
      try simp only [Act.put, List.setIfInBounds_toArray, List.set_cons_zero, List.set_cons_succ]
      refine wpAnyH_ready (rs := [11, 18]) (by kernel_rfl) (by simp) ?_
      refine AllReadyH.cons rfl (fun K hK => ?_) (AllReadyH.cons rfl (fun K hK => ?_) AllReadyH.nil)
      ·
        go_simp
        refine hK.out _ _ trivial (fun _ => ?_)
        clear hK K
        refine wpAnyH_ready (rs := [18]) (by kernel_rfl) (by simp) ?_
        refine AllReadyH.cons rfl (fun K hK => ?_) AllReadyH.nil
        go_simp
        refine hK.out _ _ trivial (fun _ => ?_)
        clear hK K
        refine wpAnyH_ready (rs := [19]) (by kernel_rfl) (by simp) ?_
        refine AllReadyH.cons rfl (fun K hK => ?_) AllReadyH.nil
        go_simp
        refine (CW.out _).mono ?_
        rintro e y1 ⟨rfl, rfl⟩
        show K _ _
        refine hK.out _ _ trivial (fun _ => ?_)
        clear hK K
        refine takeG (some 36) (i := 20) (v := ?vu20x98) rfl rfl (by kernel_rfl) (by kernel_rfl) (by kernel_rfl) (fun _ _ _ h => h) (Or.inl ⟨by rfl, ?hu20x98⟩) hS0 ?ru20x98
        case hu20x98 => (intro w _; go_simp; try (with_reducible rfl))
        try simp only [Act.put, List.setIfInBounds_toArray, List.set_cons_zero, List.set_cons_succ]
        refine takeG (some 37) (i := 21) (v := ?vu21x99) rfl rfl (by kernel_rfl) (by kernel_rfl) (by kernel_rfl) (fun _ _ _ h => h) (Or.inl ⟨by rfl, ?hu21x99⟩) hS0 ?ru21x99
        case hu21x99 => (intro w _; go_simp; try (with_reducible rfl))
        try simp only [Act.put, List.setIfInBounds_toArray, List.set_cons_zero, List.set_cons_succ]
        refine wpAnyH_ready (rs := [22]) (by kernel_rfl) (by simp) ?_
        refine AllReadyH.cons rfl (fun K hK => ?_) AllReadyH.nil
        go_simp
        refine hK.out _ _ trivial (fun _ => ?_)
        clear hK K
        refine takeG (some 38) (i := 23) (v := ?vu23x101) rfl rfl (by kernel_rfl) (by kernel_rfl) (by kernel_rfl) (fun _ _ _ h => h) (Or.inl ⟨by rfl, ?hu23x101⟩) hS0 ?ru23x101
        case hu23x101 => (intro w _; go_simp; try (with_reducible rfl))
        try simp only [Act.put, List.setIfInBounds_toArray, List.set_cons_zero, List.set_cons_succ]
        refine takeG (some 39) (i := 24) (v := ?vu24x102) rfl rfl (by kernel_rfl) (by kernel_rfl) (by kernel_rfl) (fun _ _ _ h => h) (Or.inl ⟨by rfl, ?hu24x102⟩) hS0 ?ru24x102
        case hu24x102 => (intro w _; go_simp; try (with_reducible rfl))
        try simp only [Act.put, List.setIfInBounds_toArray, List.set_cons_zero, List.set_cons_succ]
        refine wpAnyH_ready (rs := [25]) (by kernel_rfl) (by simp) ?_
        refine AllReadyH.cons rfl (fun K hK => ?_) AllReadyH.nil
        have q4 : (World.setCell wd ⟨S, 3, none⟩ (.slice (some ⟨g, o, none⟩) n cap)).cell? ⟨S, 4, none⟩ = some (.int .u64 (s1 : Int)) := by rw [World.cell?_setCell_other _ _ _ _ (by simp)]; exact n4
        go_simp
        refine hK.out _ _ trivial (fun _ => ?_)
        clear hK K
        refine wpAnyH_done (by kernel_rfl) ?_ _
        have hu := HU.out _ kd
        have hx := HX.out _ kd
        go_wp2_with fail
        go_ret
        exact ⟨rfl, _, hu.1, hx.trans hu.2⟩
      ·
        go_simp
        refine hK.out _ _ trivial (fun _ => ?_)
        clear hK K
        refine wpAnyH_ready (rs := [11]) (by kernel_rfl) (by simp) ?_
        refine AllReadyH.cons rfl (fun K hK => ?_) AllReadyH.nil
        go_simp
        refine hK.out _ _ trivial (fun _ => ?_)
        clear hK K
        refine wpAnyH_ready (rs := [19]) (by kernel_rfl) (by simp) ?_
        refine AllReadyH.cons rfl (fun K hK => ?_) AllReadyH.nil
        go_simp
        refine (CW.out _).mono ?_
        rintro e y1 ⟨rfl, rfl⟩
        show K _ _
        refine hK.out _ _ trivial (fun _ => ?_)
        clear hK K
        refine takeG (some 36) (i := 20) (v := ?vu20x107) rfl rfl (by kernel_rfl) (by kernel_rfl) (by kernel_rfl) (fun _ _ _ h => h) (Or.inl ⟨by rfl, ?hu20x107⟩) hS0 ?ru20x107
        case hu20x107 => (intro w _; go_simp; try (with_reducible rfl))
        try simp only [Act.put, List.setIfInBounds_toArray, List.set_cons_zero, List.set_cons_succ]
        refine takeG (some 37) (i := 21) (v := ?vu21x108) rfl rfl (by kernel_rfl) (by kernel_rfl) (by kernel_rfl) (fun _ _ _ h => h) (Or.inl ⟨by rfl, ?hu21x108⟩) hS0 ?ru21x108
        case hu21x108 => (intro w _; go_simp; try (with_reducible rfl))
        try simp only [Act.put, List.setIfInBounds_toArray, List.set_cons_zero, List.set_cons_succ]
        refine wpAnyH_ready (rs := [22]) (by kernel_rfl) (by simp) ?_
        refine AllReadyH.cons rfl (fun K hK => ?_) AllReadyH.nil
        go_simp
        refine hK.out _ _ trivial (fun _ => ?_)
        clear hK K
        refine takeG (some 38) (i := 23) (v := ?vu23x110) rfl rfl (by kernel_rfl) (by kernel_rfl) (by kernel_rfl) (fun _ _ _ h => h) (Or.inl ⟨by rfl, ?hu23x110⟩) hS0 ?ru23x110
        case hu23x110 => (intro w _; go_simp; try (with_reducible rfl))
        try simp only [Act.put, List.setIfInBounds_toArray, List.set_cons_zero, List.set_cons_succ]
        refine takeG (some 39) (i := 24) (v := ?vu24x111) rfl rfl (by kernel_rfl) (by kernel_rfl) (by kernel_rfl) (fun _ _ _ h => h) (Or.inl ⟨by rfl, ?hu24x111⟩) hS0 ?ru24x111
        case hu24x111 => (intro w _; go_simp; try (with_reducible rfl))
        try simp only [Act.put, List.setIfInBounds_toArray, List.set_cons_zero, List.set_cons_succ]
        refine wpAnyH_ready (rs := [25]) (by kernel_rfl) (by simp) ?_
        refine AllReadyH.cons rfl (fun K hK => ?_) AllReadyH.nil
        have q4 : (World.setCell wd ⟨S, 3, none⟩ (.slice (some ⟨g, o, none⟩) n cap)).cell? ⟨S, 4, none⟩ = some (.int .u64 (s1 : Int)) := by rw [World.cell?_setCell_other _ _ _ _ (by simp)]; exact n4
        go_simp
        refine hK.out _ _ trivial (fun _ => ?_)
        clear hK K
        refine wpAnyH_done (by kernel_rfl) ?_ _
        have hu := HU.out _ kd
        have hx := HX.out _ kd
        go_wp2_with fail
        go_ret
        exact ⟨rfl, _, hu.1, hx.trans hu.2⟩
    ·
      go_simp
      refine hK.out _ _ trivial (fun _ => ?_)
      clear hK K
      refine wpAnyH_ready (rs := [5, 18]) (by kernel_rfl) (by simp) ?_
      refine AllReadyH.cons rfl (fun K hK => ?_) (AllReadyH.cons rfl (fun K hK => ?_) AllReadyH.nil)
      ·
        go_simp
        refine hK.out _ _ trivial (fun _ => ?_)
        clear hK K
        refine takeG (some 23) (i := 7) (v := ?vu7x115) rfl rfl (by kernel_rfl) (by kernel_rfl) (by kernel_rfl) (fun _ _ _ h => h) (Or.inl ⟨by rfl, ?hu7x115⟩) hS0 ?ru7x115
        case hu7x115 => (intro w _; go_simp; try (with_reducible rfl))
        try simp only [Act.put, List.setIfInBounds_toArray, List.set_cons_zero, List.set_cons_succ]
        refine wpAnyH_ready (rs := [18]) (by kernel_rfl) (by simp) ?_
        refine AllReadyH.cons rfl (fun K hK => ?_) AllReadyH.nil
        go_simp
        refine hK.out _ _ trivial (fun _ => ?_)
        clear hK K
        refine wpAnyH_ready (rs := [19]) (by kernel_rfl) (by simp) ?_
        refine AllReadyH.cons rfl (fun K hK => ?_) AllReadyH.nil
        go_simp
        refine (CW.out _).mono ?_
        rintro e y1 ⟨rfl, rfl⟩
        show K _ _
        refine hK.out _ _ trivial (fun _ => ?_)
        clear hK K
        refine takeG (some 36) (i := 20) (v := ?vu20x118) rfl rfl (by kernel_rfl) (by kernel_rfl) (by kernel_rfl) (fun _ _ _ h => h) (Or.inl ⟨by rfl, ?hu20x118⟩) hS0 ?ru20x118
        case hu20x118 => (intro w _; go_simp; try (with_reducible rfl))
        try simp only [Act.put, List.setIfInBounds_toArray, List.set_cons_zero, List.set_cons_succ]
        refine takeG (some 37) (i := 21) (v := ?vu21x119) rfl rfl (by kernel_rfl) (by kernel_rfl) (by kernel_rfl) (fun _ _ _ h => h) (Or.inl ⟨by rfl, ?hu21x119⟩) hS0 ?ru21x119
        case hu21x119 => (intro w _; go_simp; try (with_reducible rfl))
        try simp only [Act.put, List.setIfInBounds_toArray, List.set_cons_zero, List.set_cons_succ]
        refine wpAnyH_ready (rs := [22]) (by kernel_rfl) (by simp) ?_
        refine AllReadyH.cons rfl (fun K hK => ?_) AllReadyH.nil
        go_simp
        refine hK.out _ _ trivial (fun _ => ?_)
        clear hK K
        refine takeG (some 38) (i := 23) (v := ?vu23x121) rfl rfl (by kernel_rfl) (by kernel_rfl) (by kernel_rfl) (fun _ _ _ h => h) (Or.inl ⟨by rfl, ?hu23x121⟩) hS0 ?ru23x121
        case hu23x121 => (intro w _; go_simp; try (with_reducible rfl))
        try simp only [Act.put, List.setIfInBounds_toArray, List.set_cons_zero, List.set_cons_succ]
        refine takeG (some 39) (i := 24) (v := ?vu24x122) rfl rfl (by kernel_rfl) (by kernel_rfl) (by kernel_rfl) (fun _ _ _ h => h) (Or.inl ⟨by rfl, ?hu24x122⟩) hS0 ?ru24x122
        case hu24x122 => (intro w _; go_simp; try (with_reducible rfl))
        try simp only [Act.put, List.setIfInBounds_toArray, List.set_cons_zero, List.set_cons_succ]
        refine wpAnyH_ready (rs := [25]) (by kernel_rfl) (by simp) ?_
        refine AllReadyH.cons rfl (fun K hK => ?_) AllReadyH.nil
        have q4 : (World.setCell wd ⟨S, 3, none⟩ (.slice (some ⟨g, o, none⟩) n cap)).cell? ⟨S, 4, none⟩ = some (.int .u64 (s1 : Int)) := by rw [World.cell?_setCell_other _ _ _ _ (by simp)]; exact n4
        go_simp
        refine hK.out _ _ trivial (fun _ => ?_)
        clear hK K
        refine wpAnyH_done (by kernel_rfl) ?_ _
        have hu := HU.out _ kd
        have hx := HX.out _ kd
        go_wp2_with fail
        go_ret
        exact ⟨rfl, _, hu.1, hx.trans hu.2⟩
      ·
        go_simp
        refine hK.out _ _ trivial (fun _ => ?_)
        clear hK K
        refine wpAnyH_ready (rs := [5, 19]) (by kernel_rfl) (by simp) ?_
        refine AllReadyH.cons rfl (fun K hK => ?_) (AllReadyH.cons rfl (fun K hK => ?_) AllReadyH.nil)
        ·
          go_simp
          refine hK.out _ _ trivial (fun _ => ?_)
          clear hK K
          refine takeG (some 23) (i := 7) (v := ?vu7x126) rfl rfl (by kernel_rfl) (by kernel_rfl) (by kernel_rfl) (fun _ _ _ h => h) (Or.inl ⟨by rfl, ?hu7x126⟩) hS0 ?ru7x126
          case hu7x126 => (intro w _; go_simp; try (with_reducible rfl))
          try simp only [Act.put, List.setIfInBounds_toArray, List.set_cons_zero, List.set_cons_succ]
          refine wpAnyH_ready (rs := [19]) (by kernel_rfl) (by simp) ?_
          refine AllReadyH.cons rfl (fun K hK => ?_) AllReadyH.nil
          go_simp
          refine (CW.out _).mono ?_
          rintro e y1 ⟨rfl, rfl⟩
          show K _ _
          refine hK.out _ _ trivial (fun _ => ?_)
          clear hK K
          refine takeG (some 36) (i := 20) (v := ?vu20x128) rfl rfl (by kernel_rfl) (by kernel_rfl) (by kernel_rfl) (fun _ _ _ h => h) (Or.inl ⟨by rfl, ?hu20x128⟩) hS0 ?ru20x128
          case hu20x128 => (intro w _; go_simp; try (with_reducible rfl))
          try simp only [Act.put, List.setIfInBounds_toArray, List.set_cons_zero, List.set_cons_succ]
          refine takeG (some 37) (i := 21) (v := ?vu21x129) rfl rfl (by kernel_rfl) (by kernel_rfl) (by kernel_rfl) (fun _ _ _ h => h) (Or.inl ⟨by rfl, ?hu21x129⟩) hS0 ?ru21x129
          case hu21x129 => (intro w _; go_simp; try (with_reducible rfl))
          try simp only [Act.put, List.setIfInBounds_toArray, List.set_cons_zero, List.set_cons_succ]
          refine wpAnyH_ready (rs := [22]) (by kernel_rfl) (by simp) ?_
          refine AllReadyH.cons rfl (fun K hK => ?_) AllReadyH.nil
          go_simp
          refine hK.out _ _ trivial (fun _ => ?_)
          clear hK K
          refine takeG (some 38) (i := 23) (v := ?vu23x131) rfl rfl (by kernel_rfl) (by kernel_rfl) (by kernel_rfl) (fun _ _ _ h => h) (Or.inl ⟨by rfl, ?hu23x131⟩) hS0 ?ru23x131
          case hu23x131 => (intro w _; go_simp; try (with_reducible rfl))
          try simp only [Act.put, List.setIfInBounds_toArray, List.set_cons_zero, List.set_cons_succ]
          refine takeG (some 39) (i := 24) (v := ?vu24x132) rfl rfl (by kernel_rfl) (by kernel_rfl) (by kernel_rfl) (fun _ _ _ h => h) (Or.inl ⟨by rfl, ?hu24x132⟩) hS0 ?ru24x132
          case hu24x132 => (intro w _; go_simp; try (with_reducible rfl))
          try simp only [Act.put, List.setIfInBounds_toArray, List.set_cons_zero, List.set_cons_succ]
          refine wpAnyH_ready (rs := [25]) (by kernel_rfl) (by simp) ?_
          refine AllReadyH.cons rfl (fun K hK => ?_) AllReadyH.nil
          have q4 : (World.setCell wd ⟨S, 3, none⟩ (.slice (some ⟨g, o, none⟩) n cap)).cell? ⟨S, 4, none⟩ = some (.int .u64 (s1 : Int)) := by rw [World.cell?_setCell_other _ _ _ _ (by simp)]; exact n4
          go_simp
          refine hK.out _ _ trivial (fun _ => ?_)
          clear hK K
          refine wpAnyH_done (by kernel_rfl) ?_ _
          have hu := HU.out _ kd
          have hx := HX.out _ kd
          go_wp2_with fail
          go_ret
          exact ⟨rfl, _, hu.1, hx.trans hu.2⟩
        ·
          go_simp
          refine (CW.out _).mono ?_
          rintro e y1 ⟨rfl, rfl⟩
          show K _ _
          refine hK.out _ _ trivial (fun _ => ?_)
          clear hK K
          refine wpAnyH_ready (rs := [5]) (by kernel_rfl) (by simp) ?_
          refine AllReadyH.cons rfl (fun K hK => ?_) AllReadyH.nil
          go_simp
          refine hK.out _ _ trivial (fun _ => ?_)
          clear hK K
          refine takeG (some 23) (i := 7) (v := ?vu7x136) rfl rfl (by kernel_rfl) (by kernel_rfl) (by kernel_rfl) (fun _ _ _ h => h) (Or.inl ⟨by rfl, ?hu7x136⟩) hS0 ?ru7x136
          case hu7x136 => (intro w _; go_simp; try (with_reducible rfl))
          try simp only [Act.put, List.setIfInBounds_toArray, List.set_cons_zero, List.set_cons_succ]
          refine takeG (some 36) (i := 20) (v := ?vu20x137) rfl rfl (by kernel_rfl) (by kernel_rfl) (by kernel_rfl) (fun _ _ _ h => h) (Or.inl ⟨by rfl, ?hu20x137⟩) hS0 ?ru20x137
          case hu20x137 => (intro w _; go_simp; try (with_reducible rfl))
          try simp only [Act.put, List.setIfInBounds_toArray, List.set_cons_zero, List.set_cons_succ]
          refine takeG (some 37) (i := 21) (v := ?vu21x138) rfl rfl (by kernel_rfl) (by kernel_rfl) (by kernel_rfl) (fun _ _ _ h => h) (Or.inl ⟨by rfl, ?hu21x138⟩) hS0 ?ru21x138
          case hu21x138 => (intro w _; go_simp; try (with_reducible rfl))
          try simp only [Act.put, List.setIfInBounds_toArray, List.set_cons_zero, List.set_cons_succ]
          refine wpAnyH_ready (rs := [22]) (by kernel_rfl) (by simp) ?_
          refine AllReadyH.cons rfl (fun K hK => ?_) AllReadyH.nil
          go_simp
          refine hK.out _ _ trivial (fun _ => ?_)
          clear hK K
          refine takeG (some 38) (i := 23) (v := ?vu23x140) rfl rfl (by kernel_rfl) (by kernel_rfl) (by kernel_rfl) (fun _ _ _ h => h) (Or.inl ⟨by rfl, ?hu23x140⟩) hS0 ?ru23x140
          case hu23x140 => (intro w _; go_simp; try (with_reducible rfl))
          try simp only [Act.put, List.setIfInBounds_toArray, List.set_cons_zero, List.set_cons_succ]
          refine takeG (some 39) (i := 24) (v := ?vu24x141) rfl rfl (by kernel_rfl) (by kernel_rfl) (by kernel_rfl) (fun _ _ _ h => h) (Or.inl ⟨by rfl, ?hu24x141⟩) hS0 ?ru24x141
          case hu24x141 => (intro w _; go_simp; try (with_reducible rfl))
          try simp only [Act.put, List.setIfInBounds_toArray, List.set_cons_zero, List.set_cons_succ]
          refine wpAnyH_ready (rs := [25]) (by kernel_rfl) (by simp) ?_
          refine AllReadyH.cons rfl (fun K hK => ?_) AllReadyH.nil
          have q4 : (World.setCell wd ⟨S, 3, none⟩ (.slice (some ⟨g, o, none⟩) n cap)).cell? ⟨S, 4, none⟩ = some (.int .u64 (s1 : Int)) := by rw [World.cell?_setCell_other _ _ _ _ (by simp)]; exact n4
          go_simp
          refine hK.out _ _ trivial (fun _ => ?_)
          clear hK K
          refine wpAnyH_done (by kernel_rfl) ?_ _
          have hu := HU.out _ kd
          have hx := HX.out _ kd
          go_wp2_with fail
          go_ret
          exact ⟨rfl, _, hu.1, hx.trans hu.2⟩
    ·
      go_simp
      refine hK.out _ _ trivial (fun _ => ?_)
      clear hK K
      refine wpAnyH_ready (rs := [5, 11]) (by kernel_rfl) (by simp) ?_
      refine AllReadyH.cons rfl (fun K hK => ?_) (AllReadyH.cons rfl (fun K hK => ?_) AllReadyH.nil)
      ·
        go_simp
        refine hK.out _ _ trivial (fun _ => ?_)
        clear hK K
        refine takeG (some 23) (i := 7) (v := ?vu7x145) rfl rfl (by kernel_rfl) (by kernel_rfl) (by kernel_rfl) (fun _ _ _ h => h) (Or.inl ⟨by rfl, ?hu7x145⟩) hS0 ?ru7x145
        case hu7x145 => (intro w _; go_simp; try (with_reducible rfl))
        try simp only [Act.put, List.setIfInBounds_toArray, List.set_cons_zero, List.set_cons_succ]
        refine wpAnyH_ready (rs := [11]) (by kernel_rfl) (by simp) ?_
        refine AllReadyH.cons rfl (fun K hK => ?_) AllReadyH.nil
        go_simp
        refine hK.out _ _ trivial (fun _ => ?_)
        clear hK K
        refine wpAnyH_ready (rs := [19]) (by kernel_rfl) (by simp) ?_
        refine AllReadyH.cons rfl (fun K hK => ?_) AllReadyH.nil
        go_simp
        refine (CW.out _).mono ?_
        rintro e y1 ⟨rfl, rfl⟩
        show K _ _
        refine hK.out _ _ trivial (fun _ => ?_)
        clear hK K
        refine takeG (some 36) (i := 20) (v := ?vu20x148) rfl rfl (by kernel_rfl) (by kernel_rfl) (by kernel_rfl) (fun _ _ _ h => h) (Or.inl ⟨by rfl, ?hu20x148⟩) hS0 ?ru20x148
        case hu20x148 => (intro w _; go_simp; try (with_reducible rfl))
        try simp only [Act.put, List.setIfInBounds_toArray, List.set_cons_zero, List.set_cons_succ]
        refine takeG (some 37) (i := 21) (v := ?vu21x149) rfl rfl (by kernel_rfl) (by kernel_rfl) (by kernel_rfl) (fun _ _ _ h => h) (Or.inl ⟨by rfl, ?hu21x149⟩) hS0 ?ru21x149
        case hu21x149 => (intro w _; go_simp; try (with_reducible rfl))
        try simp only [Act.put, List.setIfInBounds_toArray, List.set_cons_zero, List.set_cons_succ]
        refine wpAnyH_ready (rs := [22]) (by kernel_rfl) (by simp) ?_
        refine AllReadyH.cons rfl (fun K hK => ?_) AllReadyH.nil
        go_simp
        refine hK.out _ _ trivial (fun _ => ?_)
        clear hK K
        refine takeG (some 38) (i := 23) (v := ?vu23x151) rfl rfl (by kernel_rfl) (by kernel_rfl) (by kernel_rfl) (fun _ _ _ h => h) (Or.inl ⟨by rfl, ?hu23x151⟩) hS0 ?ru23x151
        case hu23x151 => (intro w _; go_simp; try (with_reducible rfl))
        try simp only [Act.put, List.setIfInBounds_toArray, List.set_cons_zero, List.set_cons_succ]
        refine takeG (some 39) (i := 24) (v := ?vu24x152) rfl rfl (by kernel_rfl) (by kernel_rfl) (by kernel_rfl) (fun _ _ _ h => h) (Or.inl ⟨by rfl, ?hu24x152⟩) hS0 ?ru24x152
        case hu24x152 => (intro w _; go_simp; try (with_reducible rfl))
        try simp only [Act.put, List.setIfInBounds_toArray, List.set_cons_zero, List.set_cons_succ]
        refine wpAnyH_ready (rs := [25]) (by kernel_rfl) (by simp) ?_
        refine AllReadyH.cons rfl (fun K hK => ?_) AllReadyH.nil
        have q4 : (World.setCell wd ⟨S, 3, none⟩ (.slice (some ⟨g, o, none⟩) n cap)).cell? ⟨S, 4, none⟩ = some (.int .u64 (s1 : Int)) := by rw [World.cell?_setCell_other _ _ _ _ (by simp)]; exact n4
        go_simp
        refine hK.out _ _ trivial (fun _ => ?_)
        clear hK K
        refine wpAnyH_done (by kernel_rfl) ?_ _
        have hu := HU.out _ kd
        have hx := HX.out _ kd
        go_wp2_with fail
        go_ret
        exact ⟨rfl, _, hu.1, hx.trans hu.2⟩
      ·
        go_simp
        refine hK.out _ _ trivial (fun _ => ?_)
        clear hK K
        refine wpAnyH_ready (rs := [5, 19]) (by kernel_rfl) (by simp) ?_
        refine AllReadyH.cons rfl (fun K hK => ?_) (AllReadyH.cons rfl (fun K hK => ?_) AllReadyH.nil)
        ·
          go_simp
          refine hK.out _ _ trivial (fun _ => ?_)
          clear hK K
          refine takeG (some 23) (i := 7) (v := ?vu7x156) rfl rfl (by kernel_rfl) (by kernel_rfl) (by kernel_rfl) (fun _ _ _ h => h) (Or.inl ⟨by rfl, ?hu7x156⟩) hS0 ?ru7x156
          case hu7x156 => (intro w _; go_simp; try (with_reducible rfl))
          try simp only [Act.put, List.setIfInBounds_toArray, List.set_cons_zero, List.set_cons_succ]
          refine wpAnyH_ready (rs := [19]) (by kernel_rfl) (by simp) ?_
          refine AllReadyH.cons rfl (fun K hK => ?_) AllReadyH.nil
          go_simp
          refine (CW.out _).mono ?_
          rintro e y1 ⟨rfl, rfl⟩
          show K _ _
          refine hK.out _ _ trivial (fun _ => ?_)
          clear hK K
          refine takeG (some 36) (i := 20) (v := ?vu20x158) rfl rfl (by kernel_rfl) (by kernel_rfl) (by kernel_rfl) (fun _ _ _ h => h) (Or.inl ⟨by rfl, ?hu20x158⟩) hS0 ?ru20x158
          case hu20x158 => (intro w _; go_simp; try (with_reducible rfl))
          try simp only [Act.put, List.setIfInBounds_toArray, List.set_cons_zero, List.set_cons_succ]
          refine takeG (some 37) (i := 21) (v := ?vu21x159) rfl rfl (by kernel_rfl) (by kernel_rfl) (by kernel_rfl) (fun _ _ _ h => h) (Or.inl ⟨by rfl, ?hu21x159⟩) hS0 ?ru21x159
          case hu21x159 => (intro w _; go_simp; try (with_reducible rfl))
          try simp only [Act.put, List.setIfInBounds_toArray, List.set_cons_zero, List.set_cons_succ]
          refine wpAnyH_ready (rs := [22]) (by kernel_rfl) (by simp) ?_
          refine AllReadyH.cons rfl (fun K hK => ?_) AllReadyH.nil
          go_simp
          refine hK.out _ _ trivial (fun _ => ?_)
          clear hK K
          refine takeG (some 38) (i := 23) (v := ?vu23x161) rfl rfl (by kernel_rfl) (by kernel_rfl) (by kernel_rfl) (fun _ _ _ h => h) (Or.inl ⟨by rfl, ?hu23x161⟩) hS0 ?ru23x161
          case hu23x161 => (intro w _; go_simp; try (with_reducible rfl))
          try simp only [Act.put, List.setIfInBounds_toArray, List.set_cons_zero, List.set_cons_succ]
          refine takeG (some 39) (i := 24) (v := ?vu24x162) rfl rfl (by kernel_rfl) (by kernel_rfl) (by kernel_rfl) (fun _ _ _ h => h) (Or.inl ⟨by rfl, ?hu24x162⟩) hS0 ?ru24x162
          case hu24x162 => (intro w _; go_simp; try (with_reducible rfl))
          try simp only [Act.put, List.setIfInBounds_toArray, List.set_cons_zero, List.set_cons_succ]
          refine wpAnyH_ready (rs := [25]) (by kernel_rfl) (by simp) ?_
          refine AllReadyH.cons rfl (fun K hK => ?_) AllReadyH.nil
          have q4 : (World.setCell wd ⟨S, 3, none⟩ (.slice (some ⟨g, o, none⟩) n cap)).cell? ⟨S, 4, none⟩ = some (.int .u64 (s1 : Int)) := by rw [World.cell?_setCell_other _ _ _ _ (by simp)]; exact n4
          go_simp
          refine hK.out _ _ trivial (fun _ => ?_)
          clear hK K
          refine wpAnyH_done (by kernel_rfl) ?_ _
          have hu := HU.out _ kd
          have hx := HX.out _ kd
          go_wp2_with fail
          go_ret
          exact ⟨rfl, _, hu.1, hx.trans hu.2⟩
        ·
          go_simp
          refine (CW.out _).mono ?_
          rintro e y1 ⟨rfl, rfl⟩
          show K _ _
          refine hK.out _ _ trivial (fun _ => ?_)
          clear hK K
          refine wpAnyH_ready (rs := [5]) (by kernel_rfl) (by simp) ?_
          refine AllReadyH.cons rfl (fun K hK => ?_) AllReadyH.nil
          go_simp
          refine hK.out _ _ trivial (fun _ => ?_)
          clear hK K
          refine takeG (some 23) (i := 7) (v := ?vu7x166) rfl rfl (by kernel_rfl) (by kernel_rfl) (by kernel_rfl) (fun _ _ _ h => h) (Or.inl ⟨by rfl, ?hu7x166⟩) hS0 ?ru7x166
          case hu7x166 => (intro w _; go_simp; try (with_reducible rfl))
          try simp only [Act.put, List.setIfInBounds_toArray, List.set_cons_zero, List.set_cons_succ]
          refine takeG (some 36) (i := 20) (v := ?vu20x167) rfl rfl (by kernel_rfl) (by kernel_rfl) (by kernel_rfl) (fun _ _ _ h => h) (Or.inl ⟨by rfl, ?hu20x167⟩) hS0 ?ru20x167
          case hu20x167 => (intro w _; go_simp; try (with_reducible rfl))
          try simp only [Act.put, List.setIfInBounds_toArray, List.set_cons_zero, List.set_cons_succ]
          refine takeG (some 37) (i := 21) (v := ?vu21x168) rfl rfl (by kernel_rfl) (by kernel_rfl) (by kernel_rfl) (fun _ _ _ h => h) (Or.inl ⟨by rfl, ?hu21x168⟩) hS0 ?ru21x168
          case hu21x168 => (intro w _; go_simp; try (with_reducible rfl))
          try simp only [Act.put, List.setIfInBounds_toArray, List.set_cons_zero, List.set_cons_succ]
          refine wpAnyH_ready (rs := [22]) (by kernel_rfl) (by simp) ?_
          refine AllReadyH.cons rfl (fun K hK => ?_) AllReadyH.nil
          go_simp
          refine hK.out _ _ trivial (fun _ => ?_)
          clear hK K
          refine takeG (some 38) (i := 23) (v := ?vu23x170) rfl rfl (by kernel_rfl) (by kernel_rfl) (by kernel_rfl) (fun _ _ _ h => h) (Or.inl ⟨by rfl, ?hu23x170⟩) hS0 ?ru23x170
          case hu23x170 => (intro w _; go_simp; try (with_reducible rfl))
          try simp only [Act.put, List.setIfInBounds_toArray, List.set_cons_zero, List.set_cons_succ]
          refine takeG (some 39) (i := 24) (v := ?vu24x171) rfl rfl (by kernel_rfl) (by kernel_rfl) (by kernel_rfl) (fun _ _ _ h => h) (Or.inl ⟨by rfl, ?hu24x171⟩) hS0 ?ru24x171
          case hu24x171 => (intro w _; go_simp; try (with_reducible rfl))
          try simp only [Act.put, List.setIfInBounds_toArray, List.set_cons_zero, List.set_cons_succ]
          refine wpAnyH_ready (rs := [25]) (by kernel_rfl) (by simp) ?_
          refine AllReadyH.cons rfl (fun K hK => ?_) AllReadyH.nil
          have q4 : (World.setCell wd ⟨S, 3, none⟩ (.slice (some ⟨g, o, none⟩) n cap)).cell? ⟨S, 4, none⟩ = some (.int .u64 (s1 : Int)) := by rw [World.cell?_setCell_other _ _ _ _ (by simp)]; exact n4
          go_simp
          refine hK.out _ _ trivial (fun _ => ?_)
          clear hK K
          refine wpAnyH_done (by kernel_rfl) ?_ _
          have hu := HU.out _ kd
          have hx := HX.out _ kd
          go_wp2_with fail
          go_ret
          exact ⟨rfl, _, hu.1, hx.trans hu.2⟩
end
end Go.Proofs.YtecpeegbfeijaaaGreatDoor
