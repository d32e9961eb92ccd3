/- Plain facts: closing a relation, pass by pass, comes to its paths; nothing of the program. -/
import Derived.Test.YtjfegknokombgaaDoorRelM
namespace Go.Proofs.YtjfegknokombgaaDoor
set_option maxRecDepth 100000

/-- One comes from i to j, in one step or more, by numbers below 64. -/
inductive Path (R : Mat) : Nat → Nat → Prop
  | one {i j : Nat} : R i j = true → Path R i j
  | more {i m j : Nat} : R i m = true → m < 64 → Path R m j → Path R i j
theorem Path.trans {R : Mat} {i m j : Nat} (h : Path R i m) (hm : m < 64) (k : Path R m j) : Path R i j := by
  induction h with
  | one h => exact .more h hm k
  | more h h2 _ ih => exact .more h h2 (ih hm k)
theorem Path.mono {R S : Mat} {i j : Nat} (h : Path R i j) (hRS : ∀ a b, R a b = true → S a b = true) : Path S i j := by
  induction h with
  | one h => exact .one (hRS _ _ h)
  | more h h2 _ ih => exact .more (hRS _ _ h) h2 ih
/-- One pass: what comes by m is added on. -/
def wPass (R : Mat) (m : Nat) : Mat := fun i j => R i j || (R i m && R m j)
/-- The pass, done for the rows below k. -/
def wTo (R : Mat) (m k : Nat) : Mat := fun i j => if i < k then wPass R m i j else R i j
def cloTo (R : Mat) : Nat → Mat
  | 0 => R
  | m + 1 => wPass (cloTo R m) m
def clo (R : Mat) : Mat := cloTo R 64
theorem cloTo_path (R : Mat) : ∀ (k : Nat), k ≤ 64 → ∀ i j, cloTo R k i j = true → Path R i j
  | 0, _, i, j, h => .one h
  | k + 1, hk, i, j, h => by
    have h' : (cloTo R k i j || (cloTo R k i k && cloTo R k k j)) = true := h
    rw [Bool.or_eq_true, Bool.and_eq_true] at h'
    rcases h' with h' | ⟨h1, h2⟩
    · exact cloTo_path R k (by omega) i j h'
    · exact (cloTo_path R k (by omega) i k h1).trans (by omega) (cloTo_path R k (by omega) k j h2)
theorem cloTo_sub (R : Mat) (i j : Nat) (h : R i j = true) : ∀ k, cloTo R k i j = true
  | 0 => h
  | k + 1 => by
    show (cloTo R k i j || _) = true
    rw [cloTo_sub R i j h k]; rfl
theorem cloTo_trans (R : Mat) : ∀ (k : Nat) (i m j : Nat), m < k → cloTo R k i m = true → cloTo R k m j = true → cloTo R k i j = true
  | 0, _, _, _, h, _, _ => by omega
  | k + 1, i, m, j, hm, h1, h2 => by
    have ih := cloTo_trans R k
    have e1 : (cloTo R k i m || (cloTo R k i k && cloTo R k k m)) = true := h1
    have e2 : (cloTo R k m j || (cloTo R k m k && cloTo R k k j)) = true := h2
    show (cloTo R k i j || (cloTo R k i k && cloTo R k k j)) = true
    generalize cloTo R k = A at *
    rw [Bool.or_eq_true, Bool.and_eq_true] at *
    by_cases hmk : m = k
    · subst hmk
      exact .inr ⟨e1.elim id (·.1), e2.elim id (·.2)⟩
    · have hlt : m < k := by omega
      rcases e1 with a | ⟨a1, a2⟩ <;> rcases e2 with b | ⟨b1, b2⟩
      · exact .inl (ih i m j hlt a b)
      · exact .inr ⟨ih i m k hlt a b1, b2⟩
      · exact .inr ⟨a1, ih k m j hlt a2 b⟩
      · exact .inr ⟨a1, b2⟩
theorem clo_iff (R : Mat) (i j : Nat) : clo R i j = true ↔ Path R i j := by
  constructor
  · exact cloTo_path R 64 (Nat.le_refl _) i j
  · intro h
    induction h with
    | one h => exact cloTo_sub R _ _ h 64
    | more h hm _ ih => exact cloTo_trans R 64 _ _ _ hm (cloTo_sub R _ _ h 64) ih
theorem wTo_row (R : Mat) (m k : Nat) : wTo R m k m = R m := by
  funext j
  unfold wTo wPass
  split
  · cases R m m <;> cases R m j <;> rfl
  · rfl
theorem wTo_at (R : Mat) (m k : Nat) : wTo R m k k = R k := by funext j; unfold wTo; rw [if_neg (by omega)]
theorem wTo_hit (R : Mat) (m k : Nat) (h : R k m = true) : rowSet (wTo R m k) k (fun j => R k j || R m j) = wTo R m (k + 1) := by
  funext i j
  unfold rowSet wTo
  by_cases e : i = k
  · subst e; rw [if_pos rfl, if_pos (by omega)]; unfold wPass; rw [h]; simp
  · rw [if_neg e]
    by_cases h2 : i < k
    · rw [if_pos h2, if_pos (by omega)]
    · rw [if_neg h2, if_neg (by omega)]
theorem wTo_miss (R : Mat) (m k : Nat) (h : R k m = false) : wTo R m (k + 1) = wTo R m k := by
  funext i j
  unfold wTo
  by_cases e : i = k
  · subst e; rw [if_pos (by omega), if_neg (by omega)]; unfold wPass; rw [h]; simp
  · by_cases h2 : i < k
    · rw [if_pos h2, if_pos (by omega)]
    · rw [if_neg h2, if_neg (by omega)]
theorem wTo_end (R : Mat) (m : Nat) : rowsA (wTo R m 64) = rowsA (wPass R m) := rowsA_congr fun i j hi _ => by unfold wTo; rw [if_pos hi]
/-- Does nothing stand to itself? -/
def irr (R : Mat) : Bool := (List.range 64).all fun i => !R i i
def acy (R : Mat) : Bool := irr (clo R)
theorem irr_succ (R : Mat) (k : Nat) : ((List.range (k + 1)).all fun i => !R i i) = (((List.range k).all fun i => !R i i) && !R k k) := by
  rw [List.range_succ, List.all_append]; simp
theorem acy_iff (R : Mat) : acy R = true ↔ ∀ i, i < 64 → ¬ Path R i i := by
  unfold acy irr
  rw [List.all_eq_true]
  constructor
  · intro h i hi hp
    have := h i (List.mem_range.2 hi)
    rw [(clo_iff R i i).2 hp] at this
    cases this
  · intro h i hi
    cases e : clo R i i
    · rfl
    · exact absurd ((clo_iff R i i).1 e) (h i (List.mem_range.1 hi))
end Go.Proofs.YtjfegknokombgaaDoor
